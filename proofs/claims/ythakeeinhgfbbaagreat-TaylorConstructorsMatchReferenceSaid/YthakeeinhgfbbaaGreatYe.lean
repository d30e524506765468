/-
  The law's models; the reference's normalized and Made; the argument Input.
-/
import Derived.Test.YthakeeinhgfbbaaGreatYd
import Derived.Test.YthakeeinhgfbbaaGreatR1
namespace Go.Proofs.YthakeeinhgfbbaaGreat
open Go.ChangeShapes Go.WideShapes Go.ChangeAt Go.RowKit
set_option linter.unusedVariables false
set_option linter.unusedSimpArgs false
set_option maxRecDepth 100000
attribute [local irreducible] Calls
set_option maxHeartbeats 4000000 in
theorem norm_ok (u : Value) (a b : Int) (l : List Tm) (w : World) (hu : Tx w u l) (hc : CapOk u) (hl : ∀ t ∈ l, TV t) :
    Calls Tryz.prog 59 #[u, .agg #[.int .i64 a, .int .i64 b]] w fun e w' => ∃ r, e = .returned (.agg #[r, .int .i64 (normM l (a, b)).2.1, .int .i64 (normM l (a, b)).2.2]) ∧ Tx w' r (normM l (a, b)).1 ∧ CapOk r ∧ Below w.heap.size w w' := by
  obtain ⟨pu, nu, cu, rfl, hle, hnil⟩ := hc
  have HCP : Hid (CapOk (.slice pu nu cu)) := Lib.hid ⟨pu, nu, cu, rfl, hle, hnil⟩
  have HU := Lib.hid hu
  have HL := Lib.hid hl
  clear hle hnil
  by_cases hE : Ent a b
  · rw [show normM l (a, b) = ([], (-2147483648, 2147483648)) by unfold normM; rw [if_pos (by simp [entR, hE.1, hE.2])]]
    obtain ⟨rfl, rfl⟩ := hE
    dsimp only
    have hba : Below w.heap.size w ((w.alloc (.cells #[.int .i64 (-2147483648), .int .i64 2147483648] 24)).alloc (.cells #[.slice none 0 0, .int .i64 0, .int .i64 0] 26)) := (((Below.refl _ _).alloc (Nat.le_refl _) _).alloc (by simp) _)
    have hc0 : IvC ((w.alloc (.cells #[.int .i64 (-2147483648), .int .i64 2147483648] 24)).alloc (.cells #[.slice none 0 0, .int .i64 0, .int .i64 0] 26)) (w.heap.size) ((-2147483648), 2147483648) := by
      have e := IvC.new w (-2147483648) 2147483648
      exact (e.alloc _)
    have hc1 : MoC ((w.alloc (.cells #[.int .i64 (-2147483648), .int .i64 2147483648] 24)).alloc (.cells #[.slice none 0 0, .int .i64 0, .int .i64 0] 26)) (w.heap.size + 1) (.slice none 0 0) (0, 0) := by
      have e := MoC.new (w.alloc (.cells #[.int .i64 (-2147483648), .int .i64 2147483648] 24)) (.slice none 0 0) 0 0
      simp only [World.size_alloc] at e
      exact e
    have HC0 := Lib.hid hc0
    have HC1 := Lib.hid hc1
    have HBA := Lib.hid hba
    clear hba hc0 hc1 hu hl
    go_enter Tryz.func59, Tryz.ntmps59
    go_wp2_with (fail)
    generalize hW0 : World.alloc (World.alloc w _) _ = W0 at *
    clear hW0
    have k0 := HC0.out.c0
    have k1 := HC0.out.c1
    dsimp only at k0 k1
    go_wp2_with (fail)
    refine (r2ent_yes _).mono ?_
    rintro e w1 ⟨rfl, hB1⟩
    have hR5 := HC1.out.grow hB1
    have hI5 := HC0.out.grow hB1
    have hB6 := below_then HBA.out hB1
    have l0 := hI5.c0
    have l1 := hI5.c1
    have q0 := hR5.c0
    have q1 := hR5.c1
    have q2 := hR5.c2
    have z0 := hR5.frozen 0
    have z1 := hR5.frozen 1
    have z2 := hR5.frozen 2
    dsimp only at l0 l1 q0 q1 q2
    clear k0 k1
    go_wp2_with (fail)
    have hbe := ((hB6.setCell (p := ⟨w.heap.size + 1, 0, none⟩) (by dsimp only; omega) (.slice none 0 0)).setCell (p := ⟨w.heap.size + 1, 1, none⟩) (by dsimp only; omega) (.int .i64 (-2147483648))).setCell (p := ⟨w.heap.size + 1, 2, none⟩) (by dsimp only; omega) (.int .i64 2147483648)
    refine bodyPost_ret (v := .agg #[.slice none 0 0, .int .i64 (-2147483648), .int .i64 2147483648]) (by simp [results, Tryz.results59, go_sem, q0, q1, q2]) rfl ⟨_, rfl, ?_, cap_nil, hbe⟩
    exact Tx.nil _ _ _
  · rw [show normM l (a, b) = (l, (a, b)) by unfold normM; rw [if_neg (by simp only [entR, Bool.and_eq_true, beq_iff_eq]; exact hE)]]
    dsimp only
    have KE := Lib.hid (fun w => r2ent_no a b w hE)
    clear hE
    have hba : Below w.heap.size w ((w.alloc (.cells #[.int .i64 a, .int .i64 b] 24)).alloc (.cells #[.slice none 0 0, .int .i64 0, .int .i64 0] 26)) := (((Below.refl _ _).alloc (Nat.le_refl _) _).alloc (by simp) _)
    have hc0 : IvC ((w.alloc (.cells #[.int .i64 a, .int .i64 b] 24)).alloc (.cells #[.slice none 0 0, .int .i64 0, .int .i64 0] 26)) (w.heap.size) (a, b) := by
      have e := IvC.new w a b
      exact (e.alloc _)
    have hc1 : MoC ((w.alloc (.cells #[.int .i64 a, .int .i64 b] 24)).alloc (.cells #[.slice none 0 0, .int .i64 0, .int .i64 0] 26)) (w.heap.size + 1) (.slice none 0 0) (0, 0) := by
      have e := MoC.new (w.alloc (.cells #[.int .i64 a, .int .i64 b] 24)) (.slice none 0 0) 0 0
      simp only [World.size_alloc] at e
      exact e
    have HC0 := Lib.hid hc0
    have HC1 := Lib.hid hc1
    have HBA := Lib.hid hba
    clear hba hc0 hc1 hu hl
    go_enter Tryz.func59, Tryz.ntmps59
    go_wp2_with (fail)
    generalize hW0 : World.alloc (World.alloc w _) _ = W0 at *
    clear hW0
    have k0 := HC0.out.c0
    have k1 := HC0.out.c1
    dsimp only at k0 k1
    go_wp2_with (fail)
    refine (KE.out _).mono ?_
    rintro e w1 ⟨rfl, hB1⟩
    have hR5 := HC1.out.grow hB1
    have hI5 := HC0.out.grow hB1
    have hB6 := below_then HBA.out hB1
    have l0 := hI5.c0
    have l1 := hI5.c1
    have q0 := hR5.c0
    have q1 := hR5.c1
    have q2 := hR5.c2
    have z0 := hR5.frozen 0
    have z1 := hR5.frozen 1
    have z2 := hR5.frozen 2
    dsimp only at l0 l1 q0 q1 q2
    clear k0 k1
    go_wp2_with (fail)
    have hbe := ((hB6.setCell (p := ⟨w.heap.size + 1, 0, none⟩) (by dsimp only; omega) (.slice pu nu cu)).setCell (p := ⟨w.heap.size + 1, 1, none⟩) (by dsimp only; omega) (.int .i64 a)).setCell (p := ⟨w.heap.size + 1, 2, none⟩) (by dsimp only; omega) (.int .i64 b)
    refine bodyPost_ret (v := .agg #[.slice pu nu cu, .int .i64 a, .int .i64 b]) (by simp [results, Tryz.results59, go_sem, q0, q1, q2]) rfl ⟨_, rfl, ?_, HCP.out, hbe⟩
    exact tx_moff (HU.out.grow (below_then HBA.out hB1)) HL.out hR5 _ _ _
/-- What the law's Made makes. -/
def GoodM (a : Mo) : Prop := VP a.1 ∧ (∀ t ∈ a.1, TV t) ∧ VB2 a.2 ∧ a.1.length ≤ 20 ∧ (Ent a.2.1 a.2.2 → a.1 = [])
theorem goodm_tn {a : Mo} (h : GoodM a) : ∀ t ∈ a.1, TV t ∧ Num t.1 := fun t ht => ⟨h.2.1 t ht, vp_num h.1 t ht⟩
theorem goodm_len {a : Mo} (h : GoodM a) : a.1.length ≤ 100 := Nat.le_trans h.2.2.2.1 (by decide)
theorem vp_nil : VP [] := (vpB_iff []).1 rfl
theorem norm_good {l : List Tm} {p : Int × Int} (h1 : VP l) (h2 : ∀ t ∈ l, TV t) (h3 : VB2 p) (h4 : l.length ≤ 20) : GoodM (normM l p) := by
  unfold normM
  split
  · exact ⟨vp_nil, by simp, .inl ⟨rfl, rfl⟩, by simp, fun _ => rfl⟩
  · rename_i h
    exact ⟨h1, h2, h3, h4, fun q => absurd (by have q1 : p.1 = -2147483648 := q.1; have q2 : p.2 = 2147483648 := q.2; simp [entR, q1, q2]) h⟩
set_option maxHeartbeats 4000000 in
theorem made6_ok (u : Value) (a0 a1 : Int) (l : List Tm) (w : World) (hu : Tx w u l) (hl : ∀ t ∈ l, TV t) (ha : -9223372036854775808 ≤ a0 ∧ a0 ≤ 9223372036854775807) (hb : -9223372036854775808 ≤ a1 ∧ a1 ≤ 9223372036854775807) :
    Calls Tryz.prog 31 #[.agg #[u, .int .i64 a0, .int .i64 a1]] w fun e w' => ∃ r m p q, e = .returned (.agg #[r, .int .i64 p, .int .i64 q]) ∧ Tx w' r m ∧ CapOk r ∧ GoodM (m, (p, q)) ∧ Below w.heap.size w w' := by
  obtain ⟨pu, cu, rfl⟩ := hu.cut
  obtain ⟨p, q, hpq, KI⟩ := r2made a0 a1 ha.1 ha.2 hb.1 hb.2
  have HU := Lib.hid hu
  have HKI := Lib.hid KI
  have HPQ := Lib.hid hpq
  have KM := Lib.hid (fun w h => made5 (.slice pu l.length cu) l 20 16777216 w h hl (by decide) (by decide))
  have hba : Below w.heap.size w ((w.alloc (.cells #[(.slice pu l.length cu), .int .i64 a0, .int .i64 a1] 26)).alloc (.cells #[.slice none 0 0, .int .i64 0, .int .i64 0] 26)) := (((Below.refl _ _).alloc (Nat.le_refl _) _).alloc (by simp) _)
  have hc0 : MoC ((w.alloc (.cells #[(.slice pu l.length cu), .int .i64 a0, .int .i64 a1] 26)).alloc (.cells #[.slice none 0 0, .int .i64 0, .int .i64 0] 26)) (w.heap.size) ((.slice pu l.length cu)) (a0, a1) := by
    have e := MoC.new w (.slice pu l.length cu) a0 a1
    exact (e.alloc _)
  have hc1 : MoC ((w.alloc (.cells #[(.slice pu l.length cu), .int .i64 a0, .int .i64 a1] 26)).alloc (.cells #[.slice none 0 0, .int .i64 0, .int .i64 0] 26)) (w.heap.size + 1) (.slice none 0 0) (0, 0) := by
    have e := MoC.new (w.alloc (.cells #[(.slice pu l.length cu), .int .i64 a0, .int .i64 a1] 26)) (.slice none 0 0) 0 0
    simp only [World.size_alloc] at e
    exact e
  have HC0 := Lib.hid hc0
  have HC1 := Lib.hid hc1
  have HBA := Lib.hid hba
  clear hba hc0 hc1 hu hl ha hb hpq KI
  go_enter Tryz.func31, Tryz.ntmps31
  go_wp2_with (fail)
  generalize hW0 : World.alloc (World.alloc w _) _ = W0 at *
  clear hW0
  have k0 := fun g : Grown W0 => (HC0.out.grow g.h).c0
  have k1 := fun g : Grown W0 => (HC0.out.grow g.h).c1
  have k2 := fun g : Grown W0 => (HC0.out.grow g.h).c2
  dsimp only at k0 k1 k2
  refine region_pred_l (lk [(3, fun z_ _ => z_ = .pointer (some ⟨w.heap.size, 0, none⟩)), (4, fun z_ _ => z_ = (.slice pu l.length cu)), (5, fun z_ w' => ∃ m, Tx w' z_ m ∧ CapOk z_ ∧ Good5 20 m), (6, fun z_ _ => z_ = .pointer (some ⟨w.heap.size, 1, none⟩)), (7, fun z_ _ => z_ = .agg #[.int .i64 a0, .int .i64 a1]), (8, fun z_ _ => z_ = .agg #[.int .i64 p, .int .i64 q]), (9, fun z_ w' => ∃ r m a b, z_ = .agg #[r, .int .i64 a, .int .i64 b] ∧ Tx w' r m ∧ CapOk r ∧ GoodM (m, (a, b)))]) 7 _ rfl (by kernel_rfl) (by kernel_rfl) (by kernel_rfl) (lk_steady _ ⟨steady_eq _, steady_eq _, fun u w1 w2 hb ⟨m, h1, h2, h3⟩ => ⟨m, h1.grow hb, h2, h3⟩, steady_eq _, steady_eq _, steady_eq _, fun u w1 w2 hb ⟨r, m, a, b, e, h1, h2, h3⟩ => ⟨r, m, a, b, e, h1.grow hb, h2, h3⟩, trivial⟩) ?_ ?_
  · refine ⟨?_, ?_, ?_, ?_, ?_, ?_, ?_, ?_, trivial⟩
    · intro _
      refine ob_plain [1] rfl rfl fun aa g h => ?_
      have yy0 := seen_out (v := .pointer (some ⟨w.heap.size, 0, none⟩)) rfl rfl h.1
      have ee0 := getD_of yy0
      exact tupon_value (v := .pointer (some ⟨w.heap.size, 0, none⟩)) (by simp [go_sem, ee0, yy0]) (Below.refl _ _) rfl
    · intro _
      refine ob_plain [3] rfl rfl fun aa g h => ?_
      obtain ⟨_, yy0, rfl⟩ := seen_in rfl h.1
      have ee0 := getD_of yy0
      exact tupon_value (v := (.slice pu l.length cu)) (by simp [go_sem, ee0, yy0, k0 g]) (Below.refl _ _) rfl
    · intro _
      refine ob_plain [4] rfl rfl fun aa g h => ?_
      obtain ⟨_, yy0, rfl⟩ := seen_in rfl h.1
      have ee0 := getD_of yy0
      refine tupon_enter (f := 72) (args := #[(.slice pu l.length cu), .int .i64 20, .int .i64 16777216]) (by simp [go_sem, ee0, yy0]) rfl ?_
      exact (KM.out g.w (HU.out.grow (below_then HBA.out g.h))).mono fun e w' ⟨r, m, he, hx, hs, hg, hB⟩ => ⟨_, he, hB, ⟨m, hx, hs.cap, hg⟩⟩
    · intro _
      refine ob_plain [1] rfl rfl fun aa g h => ?_
      have yy0 := seen_out (v := .pointer (some ⟨w.heap.size, 0, none⟩)) rfl rfl h.1
      have ee0 := getD_of yy0
      exact tupon_value (v := .pointer (some ⟨w.heap.size, 1, none⟩)) (by simp [go_sem, ee0, yy0]) (Below.refl _ _) rfl
    · intro _
      refine ob_plain [6] rfl rfl fun aa g h => ?_
      obtain ⟨_, yy0, rfl⟩ := seen_in rfl h.1
      have ee0 := getD_of yy0
      exact tupon_value (v := .agg #[.int .i64 a0, .int .i64 a1]) (by simp [go_sem, ee0, yy0, k1 g, k2 g]) (Below.refl _ _) rfl
    · intro _
      refine ob_plain [7] rfl rfl fun aa g h => ?_
      obtain ⟨_, yy0, rfl⟩ := seen_in rfl h.1
      have ee0 := getD_of yy0
      refine tupon_enter (f := 13) (args := #[.agg #[.int .i64 a0, .int .i64 a1]]) (by simp [go_sem, ee0, yy0]) rfl ?_
      exact (HKI.out g.w).mono fun e w' ⟨he, hB⟩ => ⟨_, he, hB, rfl⟩
    · intro _
      refine ob_plain [5, 8] rfl rfl fun aa g h => ?_
      obtain ⟨v5, yy0, ⟨m5, tx5, cp5, gd5⟩⟩ := seen_in rfl h.1
      have ee0 := getD_of yy0
      obtain ⟨_, yy1, rfl⟩ := seen_in rfl h.2.1
      have ee1 := getD_of yy1
      refine tupon_enter (f := 59) (args := #[v5, .agg #[.int .i64 p, .int .i64 q]]) (by simp [go_sem, ee0, yy0, ee1, yy1]) rfl ?_
      exact (norm_ok v5 p q m5 g.w tx5 cp5 gd5.2.2).mono fun e w' ⟨r, he, hx, hc, hB⟩ => ⟨_, he, hB, ⟨r, _, _, _, rfl, hx, hc, norm_good gd5.1 gd5.2.2 HPQ.out (by have := gd5.2.1; omega)⟩⟩
    · exact fun h => absurd rfl h
  rintro w5 hB5 _ rfl _ rfl v5 ⟨m5, tx5, cp5, gd5⟩ _ rfl _ rfl _ rfl _ ⟨r9, m9, a9, b9, rfl, tx9, cp9, gd9⟩
  have HGD := Lib.hid gd9
  have HTV := Lib.hid gd9.2.1
  simp only [Act.put, List.setIfInBounds_toArray, List.set_cons_succ, List.set_cons_zero]
  have hB6 := below_then HBA.out hB5
  have hR5 := HC1.out.grow hB5
  have q0 := hR5.c0
  have q1 := hR5.c1
  have q2 := hR5.c2
  have z0 := hR5.frozen 0
  have z1 := hR5.frozen 1
  have z2 := hR5.frozen 2
  dsimp only at q0 q1 q2
  have hne := hR5.lt
  obtain ⟨pr, nr, cr, rfl, hle, hnil⟩ := cp9
  have HX := Lib.hid tx9
  have HCP : Hid (CapOk (.slice pr nr cr)) := Lib.hid ⟨pr, nr, cr, rfl, hle, hnil⟩
  clear hle hnil
  refine ⟨_, by simp [go_sem, q0, q1, q2, z0, z1, z2]; rfl, ?_⟩
  clear k0 k1 k2
  go_wp2_with (fail)
  have hbe := ((hB6.setCell (p := ⟨w.heap.size + 1, 0, none⟩) (by dsimp only; omega) (.slice pr nr cr)).setCell (p := ⟨w.heap.size + 1, 1, none⟩) (by dsimp only; omega) (.int .i64 a9)).setCell (p := ⟨w.heap.size + 1, 2, none⟩) (by dsimp only; omega) (.int .i64 b9)
  refine bodyPost_ret (v := .agg #[.slice pr nr cr, .int .i64 a9, .int .i64 b9]) (by simp [results, Tryz.results31, go_sem, q0, q1, q2]) rfl ⟨_, _, _, _, rfl, ?_, HCP.out, HGD.out, hbe⟩
  exact tx_moff HX.out HTV.out hR5 _ _ _
set_option maxHeartbeats 8000000 in
theorem models_ok (vA vB vS : Value) (a0 a1 b0 b1 x y : Int) (la lb : List Tm) (w : World) (hA : Tx w vA la ∧ ∀ t ∈ la, TV t) (h0 : -9223372036854775808 ≤ a0 ∧ a0 ≤ 9223372036854775807) (h1 : -9223372036854775808 ≤ a1 ∧ a1 ≤ 9223372036854775807) (hB : Tx w vB lb ∧ ∀ t ∈ lb, TV t) (h2 : -9223372036854775808 ≤ b0 ∧ b0 ≤ 9223372036854775807) (h3 : -9223372036854775808 ≤ b1 ∧ b1 ≤ 9223372036854775807) :
    Calls Tryz.prog 12 #[.agg #[vA, .int .i64 a0, .int .i64 a1, vB, .int .i64 b0, .int .i64 b1, vS, .int .u16 x, .int .u16 y]] w fun e w' => ∃ r m p q r' m' p' q', e = .returned (.tuple #[.agg #[r, .int .i64 p, .int .i64 q], .agg #[r', .int .i64 p', .int .i64 q']]) ∧ Tx w' r m ∧ CapOk r ∧ GoodM (m, (p, q)) ∧ Tx w' r' m' ∧ CapOk r' ∧ GoodM (m', (p', q')) ∧ Below w.heap.size w w' := by
  obtain ⟨pA, cA, rfl⟩ := hA.1.cut
  obtain ⟨pB, cB, rfl⟩ := hB.1.cut
  have HA := Lib.hid hA
  have HB := Lib.hid hB
  have KA := Lib.hid (fun w h => made6_ok (.slice pA la.length cA) a0 a1 la w h hA.2 h0 h1)
  have KB := Lib.hid (fun w h => made6_ok (.slice pB lb.length cB) b0 b1 lb w h hB.2 h2 h3)
  have hba : Below w.heap.size w (((w.alloc (.cells #[.slice pA la.length cA, .int .i64 a0, .int .i64 a1, .slice pB lb.length cB, .int .i64 b0, .int .i64 b1, vS, .int .u16 x, .int .u16 y] 30)).alloc (.cells #[.slice none 0 0, .int .i64 0, .int .i64 0] 26)).alloc (.cells #[.slice none 0 0, .int .i64 0, .int .i64 0] 26)) := (((Below.refl _ _).alloc (Nat.le_refl _) _).alloc (by simp) _).alloc (by simp; omega) _
  have hI : (((w.alloc (.cells #[.slice pA la.length cA, .int .i64 a0, .int .i64 a1, .slice pB lb.length cB, .int .i64 b0, .int .i64 b1, vS, .int .u16 x, .int .u16 y] 30)).alloc (.cells #[.slice none 0 0, .int .i64 0, .int .i64 0] 26)).alloc (.cells #[.slice none 0 0, .int .i64 0, .int .i64 0] 26)).heap[w.heap.size]? = some (.cells #[.slice pA la.length cA, .int .i64 a0, .int .i64 a1, .slice pB lb.length cB, .int .i64 b0, .int .i64 b1, vS, .int .u16 x, .int .u16 y] 30 (0, 0)) := (Below.heap_alloc _ _ _ (by simp; omega)).trans ((Below.heap_alloc _ _ _ (by simp)).trans (World.alloc_heap_new w _))
  have hM1 : MoC (((w.alloc (.cells #[.slice pA la.length cA, .int .i64 a0, .int .i64 a1, .slice pB lb.length cB, .int .i64 b0, .int .i64 b1, vS, .int .u16 x, .int .u16 y] 30)).alloc (.cells #[.slice none 0 0, .int .i64 0, .int .i64 0] 26)).alloc (.cells #[.slice none 0 0, .int .i64 0, .int .i64 0] 26)) (w.heap.size + 1) (.slice none 0 0) (0, 0) := by
    have e := MoC.new (w.alloc (.cells #[.slice pA la.length cA, .int .i64 a0, .int .i64 a1, .slice pB lb.length cB, .int .i64 b0, .int .i64 b1, vS, .int .u16 x, .int .u16 y] 30)) (.slice none 0 0) 0 0
    rw [World.size_alloc] at e
    exact e.alloc _
  have hM2 : MoC (((w.alloc (.cells #[.slice pA la.length cA, .int .i64 a0, .int .i64 a1, .slice pB lb.length cB, .int .i64 b0, .int .i64 b1, vS, .int .u16 x, .int .u16 y] 30)).alloc (.cells #[.slice none 0 0, .int .i64 0, .int .i64 0] 26)).alloc (.cells #[.slice none 0 0, .int .i64 0, .int .i64 0] 26)) (w.heap.size + 2) (.slice none 0 0) (0, 0) := by
    have e := MoC.new ((w.alloc (.cells #[.slice pA la.length cA, .int .i64 a0, .int .i64 a1, .slice pB lb.length cB, .int .i64 b0, .int .i64 b1, vS, .int .u16 x, .int .u16 y] 30)).alloc (.cells #[.slice none 0 0, .int .i64 0, .int .i64 0] 26)) (.slice none 0 0) 0 0
    rw [World.size_alloc, World.size_alloc] at e
    exact e
  have HC1 := Lib.hid hM1
  have HC2 := Lib.hid hM2
  have HI := Lib.hid hI
  have HBA := Lib.hid hba
  clear hA hB h0 h1 h2 h3 hba hI hM1 hM2
  go_enter Tryz.func12, Tryz.ntmps12
  go_wp2_with (fail)
  generalize hW0 : World.alloc (World.alloc (World.alloc w _) _) _ = W0 at *
  clear hW0
  have k0 := fun g : Grown W0 => heapT_cell ((g.h.block w.heap.size (by have := HBA.out.size; have := HC1.out.lt; omega)).trans HI.out) (k := 0) rfl
  have k1 := fun g : Grown W0 => heapT_cell ((g.h.block w.heap.size (by have := HBA.out.size; have := HC1.out.lt; omega)).trans HI.out) (k := 1) rfl
  have k2 := fun g : Grown W0 => heapT_cell ((g.h.block w.heap.size (by have := HBA.out.size; have := HC1.out.lt; omega)).trans HI.out) (k := 2) rfl
  have k3 := fun g : Grown W0 => heapT_cell ((g.h.block w.heap.size (by have := HBA.out.size; have := HC1.out.lt; omega)).trans HI.out) (k := 3) rfl
  have k4 := fun g : Grown W0 => heapT_cell ((g.h.block w.heap.size (by have := HBA.out.size; have := HC1.out.lt; omega)).trans HI.out) (k := 4) rfl
  have k5 := fun g : Grown W0 => heapT_cell ((g.h.block w.heap.size (by have := HBA.out.size; have := HC1.out.lt; omega)).trans HI.out) (k := 5) rfl
  try dsimp only at k0 k1 k2 k3 k4 k5
  refine region_pred_n 6 (lk [(4, fun z_ _ => z_ = .pointer (some ⟨w.heap.size, 0, none⟩)), (5, fun z_ _ => z_ = .agg #[(.slice pA la.length cA), .int .i64 a0, .int .i64 a1]), (6, fun z_ w' => ∃ p n c m a b, z_ = .agg #[.slice p n c, .int .i64 a, .int .i64 b] ∧ Tx w' (.slice p n c) m ∧ CapOk (.slice p n c) ∧ GoodM (m, (a, b))), (7, fun z_ _ => z_ = .pointer (some ⟨w.heap.size, 3, none⟩)), (8, fun z_ _ => z_ = .agg #[(.slice pB lb.length cB), .int .i64 b0, .int .i64 b1]), (9, fun z_ w' => ∃ p n c m a b, z_ = .agg #[.slice p n c, .int .i64 a, .int .i64 b] ∧ Tx w' (.slice p n c) m ∧ CapOk (.slice p n c) ∧ GoodM (m, (a, b)))]) (by kernel_rfl) (by kernel_rfl) (lk_steady _ ⟨steady_eq _, steady_eq _, fun u w1 w2 hb ⟨p, n, c, m, a, b, e, h1, h2, h3⟩ => ⟨p, n, c, m, a, b, e, h1.grow hb, h2, h3⟩, steady_eq _, steady_eq _, fun u w1 w2 hb ⟨p, n, c, m, a, b, e, h1, h2, h3⟩ => ⟨p, n, c, m, a, b, e, h1.grow hb, h2, h3⟩, trivial⟩) ?_ ?_
  · refine ⟨?_, ?_, ?_, ?_, ?_, ?_, trivial⟩
    · refine ob_plain [1] rfl rfl fun aa g h => ?_
      have yy0 := seen_out (v := .pointer (some ⟨w.heap.size, 0, none⟩)) rfl rfl h.1
      have ee0 := getD_of yy0
      exact tupon_value (v := .pointer (some ⟨w.heap.size, 0, none⟩)) (by simp [go_sem, ee0, yy0]) (Below.refl _ _) rfl
    · refine ob_plain [4] rfl rfl fun aa g h => ?_
      obtain ⟨_, yy0, rfl⟩ := seen_in rfl h.1
      have ee0 := getD_of yy0
      exact tupon_value (v := .agg #[(.slice pA la.length cA), .int .i64 a0, .int .i64 a1]) (by simp [go_sem, ee0, yy0, k0 g, k1 g, k2 g]) (Below.refl _ _) rfl
    · refine ob_plain [5] rfl rfl fun aa g h => ?_
      obtain ⟨_, yy0, rfl⟩ := seen_in rfl h.1
      have ee0 := getD_of yy0
      refine tupon_enter (f := 31) (args := #[.agg #[(.slice pA la.length cA), .int .i64 a0, .int .i64 a1]]) (by simp [go_sem, ee0, yy0]) rfl ?_
      exact (KA.out g.w (HA.out.1.grow (below_then HBA.out g.h))).mono fun e w' ⟨r, m, a, b, he, hx, hc, hg, hB⟩ => ⟨_, he, hB, (by obtain ⟨p, n, c, e1, e2⟩ := hc; subst e1; exact ⟨p, n, c, m, a, b, rfl, hx, ⟨p, n, c, rfl, e2⟩, hg⟩)⟩
    · refine ob_plain [1] rfl rfl fun aa g h => ?_
      have yy0 := seen_out (v := .pointer (some ⟨w.heap.size, 0, none⟩)) rfl rfl h.1
      have ee0 := getD_of yy0
      exact tupon_value (v := .pointer (some ⟨w.heap.size, 3, none⟩)) (by simp [go_sem, ee0, yy0]) (Below.refl _ _) rfl
    · refine ob_plain [7] rfl rfl fun aa g h => ?_
      obtain ⟨_, yy0, rfl⟩ := seen_in rfl h.1
      have ee0 := getD_of yy0
      exact tupon_value (v := .agg #[(.slice pB lb.length cB), .int .i64 b0, .int .i64 b1]) (by simp [go_sem, ee0, yy0, k3 g, k4 g, k5 g]) (Below.refl _ _) rfl
    · refine ob_plain [8] rfl rfl fun aa g h => ?_
      obtain ⟨_, yy0, rfl⟩ := seen_in rfl h.1
      have ee0 := getD_of yy0
      refine tupon_enter (f := 31) (args := #[.agg #[(.slice pB lb.length cB), .int .i64 b0, .int .i64 b1]]) (by simp [go_sem, ee0, yy0]) rfl ?_
      exact (KB.out g.w (HB.out.1.grow (below_then HBA.out g.h))).mono fun e w' ⟨r, m, a, b, he, hx, hc, hg, hB⟩ => ⟨_, he, hB, (by obtain ⟨p, n, c, e1, e2⟩ := hc; subst e1; exact ⟨p, n, c, m, a, b, rfl, hx, ⟨p, n, c, rfl, e2⟩, hg⟩)⟩
  rintro w5 hB5 _ rfl _ rfl _ ⟨p6, n6, c6, m6, a6, b6, rfl, tx6, cp6, gd6⟩ _ rfl _ rfl _ ⟨p9, n9, c9, m9, a9, b9, rfl, tx9, cp9, gd9⟩
  simp only [Act.put, List.setIfInBounds_toArray, List.set_cons_succ, List.set_cons_zero, finP, List.drop_succ_cons, List.drop_zero, List.take_zero, List.filterMap_nil]
  have hB6 := below_then HBA.out hB5
  have hR1 := HC1.out.grow hB5
  have hR2 := HC2.out.grow hB5
  have q0 := hR1.c0
  have q1 := hR1.c1
  have q2 := hR1.c2
  have z0 := hR1.frozen 0
  have z1 := hR1.frozen 1
  have z2 := hR1.frozen 2
  have q3 := hR2.c0
  have q4 := hR2.c1
  have q5 := hR2.c2
  have z3 := hR2.frozen 0
  have z4 := hR2.frozen 1
  have z5 := hR2.frozen 2
  dsimp only at q0 q1 q2 q3 q4 q5
  have HX6 := Lib.hid tx6
  have HX9 := Lib.hid tx9
  have HG6 := Lib.hid gd6
  have HG9 := Lib.hid gd9
  have HP6 := Lib.hid cp6
  have HP9 := Lib.hid cp9
  clear tx6 tx9 gd6 gd9 cp6 cp9 k0 k1 k2 k3 k4 k5
  go_wp2_with (fail)
  have hbe := ((((((hB6.setCell (p := ⟨w.heap.size + 1, 0, none⟩) (by dsimp only; omega) (.slice p6 n6 c6)).setCell (p := ⟨w.heap.size + 1, 1, none⟩) (by dsimp only; omega) (.int .i64 a6)).setCell (p := ⟨w.heap.size + 1, 2, none⟩) (by dsimp only; omega) (.int .i64 b6)).setCell (p := ⟨w.heap.size + 2, 0, none⟩) (by dsimp only; omega) (.slice p9 n9 c9)).setCell (p := ⟨w.heap.size + 2, 1, none⟩) (by dsimp only; omega) (.int .i64 a9)).setCell (p := ⟨w.heap.size + 2, 2, none⟩) (by dsimp only; omega) (.int .i64 b9))
  have hR2' : MoC (((w5.setCell ⟨w.heap.size + 1, 0, none⟩ (.slice p6 n6 c6)).setCell ⟨w.heap.size + 1, 1, none⟩ (.int .i64 a6)).setCell ⟨w.heap.size + 1, 2, none⟩ (.int .i64 b6)) (w.heap.size + 2) (.slice none 0 0) (0, 0) := ((hR2.other (by omega)).other (by omega)).other (by omega)
  refine bodyPost_ret (v := .tuple #[.agg #[.slice p6 n6 c6, .int .i64 a6, .int .i64 b6], .agg #[.slice p9 n9 c9, .int .i64 a9, .int .i64 b9]]) (by simp [results, Tryz.results12, go_sem, q0, q1, q2, q3, q4, q5]) rfl ⟨_, _, _, _, _, _, _, _, rfl, tx_moff (tx_moff HX6.out HG6.out.2.1 hR1 _ _ _) HG6.out.2.1 hR2' _ _ _, HP6.out, HG6.out, tx_moff (tx_moff HX9.out HG9.out.2.1 hR1 _ _ _) HG9.out.2.1 hR2' _ _ _, HP9.out, HG9.out, hbe⟩
section
variable {H : Type} {enc : TypeId × Value → H} {w : World} {base : Nat} {spare : Nat → Bool} {held : Bool}
/-- A slice of eight-bit numbers, as an argument is read. -/
theorem s8_read {fuel : Nat} {c : Value} {y : DataW H × List MemPlace} (h : DataW.trod enc Tryz.prog w base spare held fuel 27 [c] = some y) : ∃ l : List Int, S8 w c l ∧ ∀ x ∈ l, -128 ≤ x ∧ x ≤ 127 := by
  have h1 : Tryz.prog.cellsOf 58 = 1 := by kernel_rfl
  rcases Go.Deep.open_slice Tryz.underlying27 h with ⟨hc, _⟩ | ⟨a, len, cap, m, n, D, Pl, hc, _, hl, hm, hmm, _, hi⟩
  · obtain rfl : c = .slice none 0 0 := by simpa using hc
    exact ⟨[], ⟨Nat.zero_le _, none, 0, rfl, fun k x hx => by simp at hx⟩, fun p hp => by simp at hp⟩
  · obtain rfl : c = .slice (some a) len cap := by simpa using hc
    rw [h1] at hi
    have hlm : len ≤ m := by rw [hmm]; split <;> omega
    have hel : ∀ i, i < len → ∃ x : Int, (-128 ≤ x ∧ x ≤ 127) ∧ w.cell? (a.add i) = some (.int .i8 x) := fun i hil => by
      obtain ⟨cs, hcs, ht⟩ := hi i (by omega)
      obtain ⟨_, hcl, hat⟩ := World.cells?_some hcs
      obtain ⟨k, e0, _, w0⟩ := DataW.trod_int Tryz.underlying58 ht
      match cs, hcl with
      | [c0], _ =>
        have q := hat 0 (by omega)
        simp [h1] at e0
        subst e0
        rw [Go.Deep.add_add] at q
        simp only [Nat.mul_one, Nat.add_zero] at q
        exact ⟨k, wf8i w0, by simpa using q⟩
    have hex : ∃ f : Nat → Int, ∀ i, i < len → (-128 ≤ f i ∧ f i ≤ 127) ∧ w.cell? (a.add i) = some (.int .i8 (f i)) :=
      ⟨fun i => if h : i < len then (hel i h).choose else 0, fun i h => by simp only [h, dif_pos]; exact (hel i h).choose_spec⟩
    obtain ⟨f, hf⟩ := hex
    refine ⟨(List.range len).map f, ⟨by simp; omega, some a, cap, by simp, fun k x hx => ?_⟩, fun p hp => ?_⟩
    · have hk : k < len := by
        have := (List.getElem?_eq_some_iff.1 hx).1
        simpa using this
      obtain rfl : f k = x := by
        rw [List.getElem?_map, List.getElem?_range hk] at hx
        simpa using hx
      have q00 := (hf 0 (by omega)).2
      have hs : a.spot = none := by
        have := (cell_blkT q00).2
        simpa [Addr.add] using this
      have q0 := (hf k hk).2
      have hb : a.block < w.heap.size := by
        have := (cell_blkT q0).1
        rw [add_spot a _ hs] at this
        exact this
      rw [add_spot a _ hs] at q0
      refine ⟨a.block, a.off, ?_, hb, q0⟩
      obtain ⟨b, o, sp⟩ := a
      simp only at hs
      subst hs
      rfl
    · obtain ⟨i, hi', rfl⟩ := List.mem_map.1 hp
      exact (hf i (List.mem_range.1 hi')).1
/-- A model, as an argument is read. -/
theorem mo_read {fuel : Nat} {c0 c1 c2 : Value} {y : DataW H × List MemPlace} (h : DataW.trod enc Tryz.prog w base spare held fuel 26 [c0, c1, c2] = some y) : ∃ (l : List Tm) (x y : Int), c1 = .int .i64 x ∧ c2 = .int .i64 y ∧ (Tx w c0 l ∧ ∀ t ∈ l, TV t) ∧ (-9223372036854775808 ≤ x ∧ x ≤ 9223372036854775807) ∧ (-9223372036854775808 ≤ y ∧ y ≤ 9223372036854775807) := by
  have k1 : Tryz.prog.cellsOf 22 = 1 := by kernel_rfl
  have k2 : Tryz.prog.cellsOf 24 = 2 := by kernel_rfl
  have k3 : Tryz.prog.cellsOf 2 = 1 := by kernel_rfl
  obtain ⟨y0, y1, n', _, _, t0, t1⟩ := trod_struct2 Tryz.underlying26 h
  simp [k1, k2] at t0 t1
  obtain ⟨l, a1, a2⟩ := tx_read t0
  obtain ⟨z0, z1, n2, _, _, s0, s1⟩ := trod_struct2 Tryz.underlying24 t1
  simp [k3] at s0 s1
  obtain ⟨x, e1, _, w1⟩ := DataW.trod_int Tryz.underlying2 s0
  obtain ⟨y, e2, _, w2⟩ := DataW.trod_int Tryz.underlying2 s1
  exact ⟨l, x, y, by simpa using e1, by simpa using e2, ⟨a1, a2⟩, wf64t w1, wf64t w2⟩
theorem open_input6 {r : Reach} {b0 : Nat} {v : Value} {d : DataW H} {p : List MemPlace} (hv : Value.okWide Tryz.prog w r b0 30 v) (h : DataW.Trod enc Tryz.prog w base spare held 30 v d p) :
    ∃ (vA vB vS : Value) (a0 a1 b0 b1 x y : Int) (la lb : List Tm) (ls : List Int), v = .agg #[vA, .int .i64 a0, .int .i64 a1, vB, .int .i64 b0, .int .i64 b1, vS, .int .u16 x, .int .u16 y] ∧ (Tx w vA la ∧ ∀ t ∈ la, TV t) ∧ (-9223372036854775808 ≤ a0 ∧ a0 ≤ 9223372036854775807) ∧ (-9223372036854775808 ≤ a1 ∧ a1 ≤ 9223372036854775807) ∧ (Tx w vB lb ∧ ∀ t ∈ lb, TV t) ∧ (-9223372036854775808 ≤ b0 ∧ b0 ≤ 9223372036854775807) ∧ (-9223372036854775808 ≤ b1 ∧ b1 ≤ 9223372036854775807) ∧ (S8 w vS ls ∧ ∀ x ∈ ls, -128 ≤ x ∧ x ≤ 127) ∧ (0 ≤ x ∧ x ≤ 65535) ∧ 0 ≤ y ∧ y ≤ 65535 := by
  have k1 : Tryz.prog.cellsOf 26 = 3 := by kernel_rfl
  have k2 : Tryz.prog.cellsOf 27 = 1 := by kernel_rfl
  have k3 : Tryz.prog.cellsOf 28 = 1 := by kernel_rfl
  obtain ⟨cs, rfl, hsz⟩ := okWide_struct Tryz.underlying30 hv
  obtain ⟨l⟩ := cs
  match l, hsz.trans (show Tryz.prog.cellsOf 30 = 9 by kernel_rfl) with
  | [c0, c1, c2, c3, c4, c5, c6, c7, c8], _ =>
    obtain ⟨fuel, hf⟩ := h
    obtain ⟨xs, n, _, _, _, hlen, hg⟩ := DataW.trod_struct Tryz.underlying30 hf
    match xs, hlen with
    | [y0, y1, y2, y3, y4], _ =>
      have g0 := hg 0 _ rfl
      have g1 := hg 1 _ rfl
      have g2 := hg 2 _ rfl
      have g3 := hg 3 _ rfl
      have g4 := hg 4 _ rfl
      simp [Value.cells, k1, k2, k3] at g0 g1 g2 g3 g4
      obtain ⟨la, a0, a1, rfl, rfl, A1, A2, A3⟩ := mo_read g0
      obtain ⟨lb, b0, b1, rfl, rfl, B1, B2, B3⟩ := mo_read g1
      obtain ⟨ls, S1⟩ := s8_read g2
      obtain ⟨x, e7, _, w7⟩ := DataW.trod_int Tryz.underlying28 g3
      obtain ⟨y, e8, _, w8⟩ := DataW.trod_int Tryz.underlying28 g4
      obtain rfl : c7 = .int .u16 x := by simpa using e7
      obtain rfl : c8 = .int .u16 y := by simpa using e8
      have b7 := bounds_u16 w7
      have b8 := bounds_u16 w8
      exact ⟨c0, c3, c6, a0, a1, b0, b1, x, y, la, lb, ls, rfl, A1, A2, A3, B1, B2, B3, S1, ⟨b7.1, by have := b7.2; omega⟩, b8.1, by have := b8.2; omega⟩
end
end Go.Proofs.YthakeeinhgfbbaaGreat
