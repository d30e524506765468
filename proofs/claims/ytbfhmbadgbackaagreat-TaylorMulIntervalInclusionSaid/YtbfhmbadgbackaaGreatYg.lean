/-
  The reference's HasValue, for models without terms.
  Sums and products of models commute.
-/
import Derived.Test.YtbfhmbadgbackaaGreatYe
import Derived.Test.YtbfhmbadgbackaaGreatRzM
namespace Go.Proofs.YtbfhmbadgbackaaGreat
open Go.ChangeShapes Go.WideShapes Go.ChangeAt Go.RowKit
set_option linter.unusedVariables false
set_option linter.unusedSimpArgs false
set_option maxRecDepth 100000

attribute [local irreducible] Calls
set_option maxHeartbeats 4000000 in
theorem atc_nil (p : Option Addr) (c : Nat) (vs : Value) (w : World) :
    Calls Tryz.prog 87 #[.slice p 0 c, vs] w fun e w' => e = .returned (.int .i64 0) ∧ Below w.heap.size w w' := by
  go_enter Tryz.func87, Tryz.ntmps87
  go_wp2_with (fail)
  go_loopw [5, 6] (fun o i wr => o = .int .i64 0 ∧ i = .int .i64 0 ∧ wr = w) (fun _ _ _ => 0)
  case atStart => exact ⟨rfl, rfl, rfl⟩
  case round =>
    obtain ⟨rfl, rfl, rfl⟩ := hrel
    go_wp2_with (fail)
    go_ret
    exact ⟨rfl, Below.refl _ _⟩
set_option maxHeartbeats 4000000 in
theorem hv_nil (u vs : Value) (a b x : Int) (w : World) (hu : Tx w u []) (hb : -2147483648 ≤ a ∧ a ≤ 2147483648 ∧ -2147483648 ≤ b ∧ b ≤ 2147483648) (hx : a * 65536 ≤ x ∧ x ≤ b * 65536) :
    Calls Tryz.prog 42 #[.agg #[u, .int .i64 a, .int .i64 b], vs, .int .i64 x] w fun e w' => e = .returned (.bool true) ∧ Below w.heap.size w w' := by
  obtain ⟨p, c, rfl⟩ := hu.cut
  have KA := Lib.hid (fun w => atc_nil p c vs w)
  have W1 : IntKind.i64.wrap (a * 65536) = a * 65536 := wrap_i64 _ (by omega) (by omega)
  have W2 : IntKind.i64.wrap (b * 65536) = b * 65536 := wrap_i64 _ (by omega) (by omega)
  have W3 : IntKind.i64.wrap a = a := wrap_i64 _ (by omega) (by omega)
  have W4 : IntKind.i64.wrap b = b := wrap_i64 _ (by omega) (by omega)
  have D1 : decide (a * 65536 ≤ x) = true := by simpa using hx.1
  have D2 : decide (x ≤ b * 65536) = true := by simpa using hx.2
  have D3 : a * 65536 ≤ x := hx.1
  have D4 : x ≤ b * 65536 := hx.2
  have hM := Lib.hid (MoC.new w (.slice p 0 c) a b)
  have hba : Below w.heap.size w (w.alloc (.cells #[.slice p 0 c, .int .i64 a, .int .i64 b] 26)) := (Below.refl _ _).alloc (Nat.le_refl _) _
  have HBA := Lib.hid hba
  clear hu hb hx hba
  rw [show ([] : List Tm).length = 0 from rfl]
  go_enter Tryz.func42, Tryz.ntmps42
  go_wp2_with (fail)
  refine (KA.out _).mono ?_
  rintro e w1 ⟨rfl, hB1⟩
  have hM1 := hM.out.grow hB1
  have q1 := hM1.c1
  have q2 := hM1.c2
  dsimp only at q1 q2
  have hb1 := below_then HBA.out hB1
  by_cases hE : Ent a b
  · obtain ⟨rfl, rfl⟩ := hE
    go_wp2_with (fail)
    refine (r2ent_yes _).mono ?_
    rintro e w2 ⟨rfl, hB2⟩
    clear q1 q2
    go_wp2_with (fail)
    go_ret
    exact ⟨rfl, below_then hb1 hB2⟩
  · have KE := Lib.hid (fun w => r2ent_no a b w hE)
    clear hE
    go_wp2_with (fail)
    refine (KE.out _).mono ?_
    rintro e w2 ⟨rfl, hB2⟩
    have hM2 := hM1.grow hB2
    clear q1 q2
    have q1 := hM2.c1
    have q2 := hM2.c2
    dsimp only at q1 q2
    go_wp2_with (fail)
    go_ret
    exact ⟨by simp [D1, D2], below_then hb1 hB2⟩
end Go.Proofs.YtbfhmbadgbackaaGreat

namespace Go.Proofs.YtbfhmbadgbackaaGreat
open Go.ChangeShapes Go.WideShapes Go.ChangeAt Go.RowKit
set_option linter.unusedVariables false
set_option linter.unusedSimpArgs false

theorem merge_comm {l m : List Tm} (hl : VP l) (hm : VP m) : mergeP l m = mergeP m l := by
  have p1 := vp_parts hl
  have p2 := vp_parts hm
  exact rise_same (merge_rise l m p1.1 p2.1) (merge_rise m l p2.1 p1.1) (merge_nz l m (fun t ht => (p1.2 t ht).1) (fun t ht => (p2.2 t ht).1)) (merge_nz m l (fun t ht => (p2.2 t ht).1) (fun t ht => (p1.2 t ht).1)) (fun e => by rw [sumK_merge, sumK_merge, Int.add_comm])
theorem addI2_comm (p q : Int × Int) : addI2 p q = addI2 q p := by
  unfold addI2 addLo addHi
  rw [Int.add_comm p.1 q.1, Int.add_comm p.2 q.2]
  by_cases h1 : Ent p.1 p.2 <;> by_cases h2 : Ent q.1 q.2 <;> simp [h1, h2]
theorem addM_comm {a b : Mo} (ha : VP a.1) (hb : VP b.1) : addM a b = addM b a := by
  unfold addM
  rw [merge_comm ha hb, addI2_comm a.2 b.2]
theorem negM_negM (a : Mo) : negM (negM a) = a := by
  obtain ⟨l, p, q⟩ := a
  have e : negT (negT l) = l := by
    unfold negT
    rw [List.map_map]
    refine (List.map_congr_left (g := id) fun t _ => ?_).trans (List.map_id l)
    simp
  unfold negM negI2
  dsimp only
  rw [e, Int.neg_neg, Int.neg_neg]
theorem addI2_fin {p q : Int × Int} (h : ¬ Ent (addI2 p q).1 (addI2 p q).2) : ¬ Ent p.1 p.2 ∧ ¬ Ent q.1 q.2 ∧ addI2 p q = (p.1 + q.1, p.2 + q.2) := by
  unfold addI2 addLo addHi at *
  by_cases h1 : Ent p.1 p.2 ∨ Ent q.1 q.2
  · rw [if_pos h1, if_pos h1] at h
    exact absurd ⟨rfl, rfl⟩ h
  · rw [if_neg h1, if_neg h1] at h ⊢
    refine ⟨fun q => h1 (.inl q), fun q => h1 (.inr q), ?_⟩
    unfold mkLo mkHi at *
    by_cases h2 : Num (p.1 + q.1) ∧ Num (p.2 + q.2)
    · rw [if_pos h2, if_pos h2]
    · rw [if_neg h2, if_neg h2] at h
      exact absurd ⟨rfl, rfl⟩ h
theorem mulI2_comm (p q : Int × Int) : mulI2 p q = mulI2 q p := by
  unfold mulI2
  rw [(mul_comm2 q.1 q.2 p.1 p.2).1, (mul_comm2 q.1 q.2 p.1 p.2).2]
theorem addE_comm (d e : List Int) : addE d e = addE e d := by
  unfold addE
  induction d generalizing e with
  | nil => cases e <;> simp
  | cons x d ih =>
    cases e with
    | nil => simp
    | cons y e =>
      simp only [List.zip_cons_cons, List.map_cons, ih e, Int.add_comm x y]
theorem prT_comm (s t : Tm) : prT (s, t) = prT (t, s) := by
  unfold prT
  dsimp only
  rw [Int.mul_comm s.1 t.1, addE_comm s.2 t.2]
theorem rndP_comm (s t : Tm) : rndP (s, t) = rndP (t, s) := by
  unfold rndP
  dsimp only
  rw [Int.mul_comm s.1 t.1, addE_comm s.2 t.2]
/-- A sum over all pairs, in whichever order. -/
theorem pairs_sum (g : Tm × Tm → Int) (hg : ∀ s t, g (s, t) = g (t, s)) (l m : List Tm) : ((pairsT l m).map g).sum = ((pairsT m l).map g).sum := by
  have nil_r : ∀ m : List Tm, pairsT m [] = [] := fun m => by simp [pairsT]
  have split : ∀ (m : List Tm) (s : Tm) (l : List Tm), ((pairsT m (s :: l)).map g).sum = ((m.map fun t => g (t, s))).sum + ((pairsT m l).map g).sum := by
    intro m s l
    induction m with
    | nil => simp [pairsT]
    | cons t m ih =>
      have e1 : pairsT (t :: m) (s :: l) = ((s :: l).map fun u => (t, u)) ++ pairsT m (s :: l) := by simp [pairsT]
      have e2 : pairsT (t :: m) l = (l.map fun u => (t, u)) ++ pairsT m l := by simp [pairsT]
      rw [e1, e2, List.map_append, List.sum_append, ih, List.map_append, List.sum_append]
      simp only [List.map_cons, List.sum_cons]
      omega
  induction l with
  | nil => rw [nil_r]; simp [pairsT]
  | cons s l ih =>
    have e1 : pairsT (s :: l) m = (m.map fun t => (s, t)) ++ pairsT l m := by simp [pairsT]
    rw [e1, split m s l, List.map_append, List.sum_append, ih, List.map_map]
    congr 2
    refine List.map_congr_left fun t _ => ?_
    exact hg s t
theorem sumK_map (Q : List (Tm × Tm)) (e : List Int) : sumK (Q.map prT) e = (Q.map fun p => if (prT p).2 = e then (prT p).1 else 0).sum := by
  induction Q with
  | nil => simp [sumK]
  | cons p Q ih => rw [List.map_cons, sumK_cons, List.map_cons, List.sum_cons, ih]
theorem missM_sum (Q : List (Tm × Tm)) : missM Q = ((Q.map fun p => (rndP p).1).sum, (Q.map fun p => (rndP p).2).sum) := by
  have : ∀ (Q : List (Tm × Tm)) (a : Int × Int), Q.foldl (fun a p => (a.1 + (rndP p).1, a.2 + (rndP p).2)) a = (a.1 + (Q.map fun p => (rndP p).1).sum, a.2 + (Q.map fun p => (rndP p).2).sum) := by
    intro Q
    induction Q with
    | nil => intro a; simp
    | cons p Q ih =>
      intro a
      rw [List.foldl_cons, ih]
      simp only [List.map_cons, List.sum_cons, Prod.mk.injEq]
      omega
  unfold missM
  rw [this]
  simp
theorem missM_comm (l m : List Tm) : missM (pairsT l m) = missM (pairsT m l) := by
  rw [missM_sum, missM_sum, pairs_sum (fun p => (rndP p).1) (fun s t => by rw [rndP_comm]) l m, pairs_sum (fun p => (rndP p).2) (fun s t => by rw [rndP_comm]) l m]
theorem rise_filter {l : List Tm} (h : Rise l) (f : Tm → Bool) : Rise (l.filter f) := List.Pairwise.filter f h
theorem mulP_comm (l m : List Tm) : mulP l m = mulP m l := by
  refine rise_same (rise_filter (coll_rise _) _) (rise_filter (coll_rise _) _) (fun t ht => by simpa using (List.mem_filter.1 ht).2) (fun t ht => by simpa using (List.mem_filter.1 ht).2) fun e => ?_
  have h : ∀ l m : List Tm, sumK (mulP l m) e = sumK ((pairsT l m).map prT) e := fun l m => by
    have := sumK_nz (collT ((pairsT l m).map prT)) e
    rw [coll_sum] at this
    exact this
  rw [h, h, sumK_map, sumK_map]
  exact pairs_sum (fun p => if (prT p).2 = e then (prT p).1 else 0) (fun s t => by rw [prT_comm]) l m
theorem mulR_comm (l m : List Tm) (d : Int) : mulR l m d = mulR m l d := by
  unfold mulR
  rw [mulP_comm l m, missM_comm l m]
theorem normM_ent {l : List Tm} {p : Int × Int} (h : ¬ Ent (normM l p).2.1 (normM l p).2.2) : normM l p = (l, p) ∧ ¬ Ent p.1 p.2 := by
  unfold normM at *
  by_cases q : entR p = true
  · rw [if_pos q] at h
    exact absurd ⟨rfl, rfl⟩ h
  · rw [if_neg q]
    refine ⟨rfl, fun e => q (by simp [entR, e.1, e.2])⟩
theorem mulM_comm (a b : Mo) (d : Int) : mulM a b d = mulM b a d ∨ Ent (mulM a b d).2.1 (mulM a b d).2.2 ∨ Ent (mulM b a d).2.1 (mulM b a d).2.2 := by
  by_cases h1 : Ent (mulM a b d).2.1 (mulM a b d).2.2
  · exact .inr (.inl h1)
  · by_cases h2 : Ent (mulM b a d).2.1 (mulM b a d).2.2
    · exact .inr (.inr h2)
    · refine .inl ?_
      unfold mulM at *
      rw [mulR_comm b.1 a.1] at h2 ⊢
      rw [mulI2_comm b.2 a.2] at h2 ⊢
      obtain ⟨e1, f1⟩ := normM_ent h1
      obtain ⟨e2, f2⟩ := normM_ent h2
      rw [e1, e2]
      obtain ⟨g1, _, k1⟩ := addI2_fin f1
      obtain ⟨g2, _, k2⟩ := addI2_fin f2
      obtain ⟨i1, _, m1⟩ := addI2_fin g1
      obtain ⟨i2, _, m2⟩ := addI2_fin g2
      obtain ⟨_, _, n1⟩ := addI2_fin i1
      obtain ⟨_, _, n2⟩ := addI2_fin i2
      rw [k1, k2, m1, m2, n1, n2]
      simp only [Prod.mk.injEq, true_and]
      omega
def In0 (p : Int × Int) : Prop := p.1 ≤ 0 ∧ 0 ≤ p.2
theorem mk_in0 {x y : Int} (h : x ≤ 0 ∧ 0 ≤ y) : mkLo x y ≤ 0 ∧ 0 ≤ mkHi x y := by
  unfold mkLo mkHi
  by_cases q : Num x ∧ Num y
  · rw [if_pos q, if_pos q]; exact h
  · rw [if_neg q, if_neg q]; decide
theorem add_in0 {p q : Int × Int} (hp : In0 p) (hq : In0 q) : In0 (addI2 p q) := by
  unfold In0 addI2 addLo addHi at *
  dsimp only
  by_cases h : Ent p.1 p.2 ∨ Ent q.1 q.2
  · rw [if_pos h, if_pos h]; decide
  · rw [if_neg h, if_neg h]
    exact mk_in0 (by omega)
theorem neg_in0 {p : Int × Int} (h : p.1 ≤ p.2) : In0 (addI2 p (negI2 p)) := by
  unfold In0 addI2 addLo addHi negI2
  dsimp only
  by_cases q : Ent p.1 p.2 ∨ Ent (-p.2) (-p.1)
  · rw [if_pos q, if_pos q]; decide
  · rw [if_neg q, if_neg q]
    exact mk_in0 (by omega)
theorem sub_self_ok {a : Mo} (h : VB2 a.2) : (addM a (negM a)).1 = [] ∧ In0 (addM a (negM a)).2 := by
  unfold addM
  rw [show (negM a).1 = negT a.1 from rfl, show (negM a).2 = negI2 a.2 from rfl, sum_neg]
  dsimp only
  have hv : a.2.1 ≤ a.2.2 := vb_leY h
  have hi := add_in0 (p := (0, 0)) ⟨Int.le_refl _, Int.le_refl _⟩ (neg_in0 hv)
  unfold normM
  split
  · exact ⟨rfl, by unfold In0; decide⟩
  · exact ⟨rfl, hi⟩
end Go.Proofs.YtbfhmbadgbackaaGreat
