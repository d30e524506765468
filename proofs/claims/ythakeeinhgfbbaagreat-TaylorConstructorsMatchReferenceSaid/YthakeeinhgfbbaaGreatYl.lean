/-
  The reference's HasValue, for models without terms.
  Sums and products of models commute.
  The reference's AtCorner, ValueAt, HasValue.
  Truncated models keep their values.
  Ranges of models and values at corners; variables and constants as models, in full; a slice of eight-bit numbers, written to;
  sums and products of models hold the sums and products of their values at a corner.
-/
import Derived.Test.YthakeeinhgfbbaaGreatYe
import Derived.Test.YthakeeinhgfbbaaGreatRzM
import Derived.Test.YthakeeinhgfbbaaGreatR1
namespace Go.Proofs.YthakeeinhgfbbaaGreat
open Go.ChangeShapes Go.WideShapes Go.ChangeAt Go.RowKit
set_option linter.unusedVariables false
set_option linter.unusedSimpArgs false
set_option maxRecDepth 100000

attribute [local irreducible] Calls
set_option maxHeartbeats 4000000 in
theorem atc_nil (p : Option Addr) (c : Nat) (vs : Value) (w : World) :
    Calls Tryz.prog 87 #[.slice p 0 c, vs] w fun e w' => e = .returned (.int .i64 0) ∧ Below w.heap.size w w' := by
  go_enter Tryz.func87, Tryz.ntmps87
  go_wp2_with (fail)
  go_loopw [5, 6] (fun o i wr => o = .int .i64 0 ∧ i = .int .i64 0 ∧ wr = w) (fun _ _ _ => 0)
  case atStart => exact ⟨rfl, rfl, rfl⟩
  case round =>
    obtain ⟨rfl, rfl, rfl⟩ := hrel
    go_wp2_with (fail)
    go_ret
    exact ⟨rfl, Below.refl _ _⟩
set_option maxHeartbeats 4000000 in
theorem hv_nil (u vs : Value) (a b x : Int) (w : World) (hu : Tx w u []) (hb : -2147483648 ≤ a ∧ a ≤ 2147483648 ∧ -2147483648 ≤ b ∧ b ≤ 2147483648) (hx : a * 65536 ≤ x ∧ x ≤ b * 65536) :
    Calls Tryz.prog 42 #[.agg #[u, .int .i64 a, .int .i64 b], vs, .int .i64 x] w fun e w' => e = .returned (.bool true) ∧ Below w.heap.size w w' := by
  obtain ⟨p, c, rfl⟩ := hu.cut
  have KA := Lib.hid (fun w => atc_nil p c vs w)
  have W1 : IntKind.i64.wrap (a * 65536) = a * 65536 := wrap_i64 _ (by omega) (by omega)
  have W2 : IntKind.i64.wrap (b * 65536) = b * 65536 := wrap_i64 _ (by omega) (by omega)
  have W3 : IntKind.i64.wrap a = a := wrap_i64 _ (by omega) (by omega)
  have W4 : IntKind.i64.wrap b = b := wrap_i64 _ (by omega) (by omega)
  have D1 : decide (a * 65536 ≤ x) = true := by simpa using hx.1
  have D2 : decide (x ≤ b * 65536) = true := by simpa using hx.2
  have D3 : a * 65536 ≤ x := hx.1
  have D4 : x ≤ b * 65536 := hx.2
  have hM := Lib.hid (MoC.new w (.slice p 0 c) a b)
  have hba : Below w.heap.size w (w.alloc (.cells #[.slice p 0 c, .int .i64 a, .int .i64 b] 26)) := (Below.refl _ _).alloc (Nat.le_refl _) _
  have HBA := Lib.hid hba
  clear hu hb hx hba
  rw [show ([] : List Tm).length = 0 from rfl]
  go_enter Tryz.func42, Tryz.ntmps42
  go_wp2_with (fail)
  refine (KA.out _).mono ?_
  rintro e w1 ⟨rfl, hB1⟩
  have hM1 := hM.out.grow hB1
  have q1 := hM1.c1
  have q2 := hM1.c2
  dsimp only at q1 q2
  have hb1 := below_then HBA.out hB1
  by_cases hE : Ent a b
  · obtain ⟨rfl, rfl⟩ := hE
    go_wp2_with (fail)
    refine (r2ent_yes _).mono ?_
    rintro e w2 ⟨rfl, hB2⟩
    clear q1 q2
    go_wp2_with (fail)
    go_ret
    exact ⟨rfl, below_then hb1 hB2⟩
  · have KE := Lib.hid (fun w => r2ent_no a b w hE)
    clear hE
    go_wp2_with (fail)
    refine (KE.out _).mono ?_
    rintro e w2 ⟨rfl, hB2⟩
    have hM2 := hM1.grow hB2
    clear q1 q2
    have q1 := hM2.c1
    have q2 := hM2.c2
    dsimp only at q1 q2
    go_wp2_with (fail)
    go_ret
    exact ⟨by simp [D1, D2], below_then hb1 hB2⟩
end Go.Proofs.YthakeeinhgfbbaaGreat

namespace Go.Proofs.YthakeeinhgfbbaaGreat
open Go.ChangeShapes Go.WideShapes Go.ChangeAt Go.RowKit
set_option linter.unusedVariables false
set_option linter.unusedSimpArgs false

theorem merge_comm {l m : List Tm} (hl : VP l) (hm : VP m) : mergeP l m = mergeP m l := by
  have p1 := vp_parts hl
  have p2 := vp_parts hm
  exact rise_same (merge_rise l m p1.1 p2.1) (merge_rise m l p2.1 p1.1) (merge_nz l m (fun t ht => (p1.2 t ht).1) (fun t ht => (p2.2 t ht).1)) (merge_nz m l (fun t ht => (p2.2 t ht).1) (fun t ht => (p1.2 t ht).1)) (fun e => by rw [sumK_merge, sumK_merge, Int.add_comm])
theorem addI2_comm (p q : Int × Int) : addI2 p q = addI2 q p := by
  unfold addI2 addLo addHi
  rw [Int.add_comm p.1 q.1, Int.add_comm p.2 q.2]
  by_cases h1 : Ent p.1 p.2 <;> by_cases h2 : Ent q.1 q.2 <;> simp [h1, h2]
theorem addM_comm {a b : Mo} (ha : VP a.1) (hb : VP b.1) : addM a b = addM b a := by
  unfold addM
  rw [merge_comm ha hb, addI2_comm a.2 b.2]
theorem negM_negM (a : Mo) : negM (negM a) = a := by
  obtain ⟨l, p, q⟩ := a
  have e : negT (negT l) = l := by
    unfold negT
    rw [List.map_map]
    refine (List.map_congr_left (g := id) fun t _ => ?_).trans (List.map_id l)
    simp
  unfold negM negI2
  dsimp only
  rw [e, Int.neg_neg, Int.neg_neg]
theorem addI2_fin {p q : Int × Int} (h : ¬ Ent (addI2 p q).1 (addI2 p q).2) : ¬ Ent p.1 p.2 ∧ ¬ Ent q.1 q.2 ∧ addI2 p q = (p.1 + q.1, p.2 + q.2) := by
  unfold addI2 addLo addHi at *
  by_cases h1 : Ent p.1 p.2 ∨ Ent q.1 q.2
  · rw [if_pos h1, if_pos h1] at h
    exact absurd ⟨rfl, rfl⟩ h
  · rw [if_neg h1, if_neg h1] at h ⊢
    refine ⟨fun q => h1 (.inl q), fun q => h1 (.inr q), ?_⟩
    unfold mkLo mkHi at *
    by_cases h2 : Num (p.1 + q.1) ∧ Num (p.2 + q.2)
    · rw [if_pos h2, if_pos h2]
    · rw [if_neg h2, if_neg h2] at h
      exact absurd ⟨rfl, rfl⟩ h
theorem mulI2_comm (p q : Int × Int) : mulI2 p q = mulI2 q p := by
  unfold mulI2
  rw [(mul_comm2 q.1 q.2 p.1 p.2).1, (mul_comm2 q.1 q.2 p.1 p.2).2]
theorem addE_comm (d e : List Int) : addE d e = addE e d := by
  unfold addE
  induction d generalizing e with
  | nil => cases e <;> simp
  | cons x d ih =>
    cases e with
    | nil => simp
    | cons y e =>
      simp only [List.zip_cons_cons, List.map_cons, ih e, Int.add_comm x y]
theorem prT_comm (s t : Tm) : prT (s, t) = prT (t, s) := by
  unfold prT
  dsimp only
  rw [Int.mul_comm s.1 t.1, addE_comm s.2 t.2]
theorem rndP_comm (s t : Tm) : rndP (s, t) = rndP (t, s) := by
  unfold rndP
  dsimp only
  rw [Int.mul_comm s.1 t.1, addE_comm s.2 t.2]
/-- A sum over all pairs, in whichever order. -/
theorem pairs_sum (g : Tm × Tm → Int) (hg : ∀ s t, g (s, t) = g (t, s)) (l m : List Tm) : ((pairsT l m).map g).sum = ((pairsT m l).map g).sum := by
  have nil_r : ∀ m : List Tm, pairsT m [] = [] := fun m => by simp [pairsT]
  have split : ∀ (m : List Tm) (s : Tm) (l : List Tm), ((pairsT m (s :: l)).map g).sum = ((m.map fun t => g (t, s))).sum + ((pairsT m l).map g).sum := by
    intro m s l
    induction m with
    | nil => simp [pairsT]
    | cons t m ih =>
      have e1 : pairsT (t :: m) (s :: l) = ((s :: l).map fun u => (t, u)) ++ pairsT m (s :: l) := by simp [pairsT]
      have e2 : pairsT (t :: m) l = (l.map fun u => (t, u)) ++ pairsT m l := by simp [pairsT]
      rw [e1, e2, List.map_append, List.sum_append, ih, List.map_append, List.sum_append]
      simp only [List.map_cons, List.sum_cons]
      omega
  induction l with
  | nil => rw [nil_r]; simp [pairsT]
  | cons s l ih =>
    have e1 : pairsT (s :: l) m = (m.map fun t => (s, t)) ++ pairsT l m := by simp [pairsT]
    rw [e1, split m s l, List.map_append, List.sum_append, ih, List.map_map]
    congr 2
    refine List.map_congr_left fun t _ => ?_
    exact hg s t
theorem sumK_map (Q : List (Tm × Tm)) (e : List Int) : sumK (Q.map prT) e = (Q.map fun p => if (prT p).2 = e then (prT p).1 else 0).sum := by
  induction Q with
  | nil => simp [sumK]
  | cons p Q ih => rw [List.map_cons, sumK_cons, List.map_cons, List.sum_cons, ih]
theorem missM_sum (Q : List (Tm × Tm)) : missM Q = ((Q.map fun p => (rndP p).1).sum, (Q.map fun p => (rndP p).2).sum) := by
  have : ∀ (Q : List (Tm × Tm)) (a : Int × Int), Q.foldl (fun a p => (a.1 + (rndP p).1, a.2 + (rndP p).2)) a = (a.1 + (Q.map fun p => (rndP p).1).sum, a.2 + (Q.map fun p => (rndP p).2).sum) := by
    intro Q
    induction Q with
    | nil => intro a; simp
    | cons p Q ih =>
      intro a
      rw [List.foldl_cons, ih]
      simp only [List.map_cons, List.sum_cons, Prod.mk.injEq]
      omega
  unfold missM
  rw [this]
  simp
theorem missM_comm (l m : List Tm) : missM (pairsT l m) = missM (pairsT m l) := by
  rw [missM_sum, missM_sum, pairs_sum (fun p => (rndP p).1) (fun s t => by rw [rndP_comm]) l m, pairs_sum (fun p => (rndP p).2) (fun s t => by rw [rndP_comm]) l m]
theorem rise_filter {l : List Tm} (h : Rise l) (f : Tm → Bool) : Rise (l.filter f) := List.Pairwise.filter f h
theorem mulP_comm (l m : List Tm) : mulP l m = mulP m l := by
  refine rise_same (rise_filter (coll_rise _) _) (rise_filter (coll_rise _) _) (fun t ht => by simpa using (List.mem_filter.1 ht).2) (fun t ht => by simpa using (List.mem_filter.1 ht).2) fun e => ?_
  have h : ∀ l m : List Tm, sumK (mulP l m) e = sumK ((pairsT l m).map prT) e := fun l m => by
    have := sumK_nz (collT ((pairsT l m).map prT)) e
    rw [coll_sum] at this
    exact this
  rw [h, h, sumK_map, sumK_map]
  exact pairs_sum (fun p => if (prT p).2 = e then (prT p).1 else 0) (fun s t => by rw [prT_comm]) l m
theorem mulR_comm (l m : List Tm) (d : Int) : mulR l m d = mulR m l d := by
  unfold mulR
  rw [mulP_comm l m, missM_comm l m]
theorem normM_ent {l : List Tm} {p : Int × Int} (h : ¬ Ent (normM l p).2.1 (normM l p).2.2) : normM l p = (l, p) ∧ ¬ Ent p.1 p.2 := by
  unfold normM at *
  by_cases q : entR p = true
  · rw [if_pos q] at h
    exact absurd ⟨rfl, rfl⟩ h
  · rw [if_neg q]
    refine ⟨rfl, fun e => q (by simp [entR, e.1, e.2])⟩
theorem mulM_comm (a b : Mo) (d : Int) : mulM a b d = mulM b a d ∨ Ent (mulM a b d).2.1 (mulM a b d).2.2 ∨ Ent (mulM b a d).2.1 (mulM b a d).2.2 := by
  by_cases h1 : Ent (mulM a b d).2.1 (mulM a b d).2.2
  · exact .inr (.inl h1)
  · by_cases h2 : Ent (mulM b a d).2.1 (mulM b a d).2.2
    · exact .inr (.inr h2)
    · refine .inl ?_
      unfold mulM at *
      rw [mulR_comm b.1 a.1] at h2 ⊢
      rw [mulI2_comm b.2 a.2] at h2 ⊢
      obtain ⟨e1, f1⟩ := normM_ent h1
      obtain ⟨e2, f2⟩ := normM_ent h2
      rw [e1, e2]
      obtain ⟨g1, _, k1⟩ := addI2_fin f1
      obtain ⟨g2, _, k2⟩ := addI2_fin f2
      obtain ⟨i1, _, m1⟩ := addI2_fin g1
      obtain ⟨i2, _, m2⟩ := addI2_fin g2
      obtain ⟨_, _, n1⟩ := addI2_fin i1
      obtain ⟨_, _, n2⟩ := addI2_fin i2
      rw [k1, k2, m1, m2, n1, n2]
      simp only [Prod.mk.injEq, true_and]
      omega
def In0 (p : Int × Int) : Prop := p.1 ≤ 0 ∧ 0 ≤ p.2
theorem mk_in0 {x y : Int} (h : x ≤ 0 ∧ 0 ≤ y) : mkLo x y ≤ 0 ∧ 0 ≤ mkHi x y := by
  unfold mkLo mkHi
  by_cases q : Num x ∧ Num y
  · rw [if_pos q, if_pos q]; exact h
  · rw [if_neg q, if_neg q]; decide
theorem add_in0 {p q : Int × Int} (hp : In0 p) (hq : In0 q) : In0 (addI2 p q) := by
  unfold In0 addI2 addLo addHi at *
  dsimp only
  by_cases h : Ent p.1 p.2 ∨ Ent q.1 q.2
  · rw [if_pos h, if_pos h]; decide
  · rw [if_neg h, if_neg h]
    exact mk_in0 (by omega)
theorem neg_in0 {p : Int × Int} (h : p.1 ≤ p.2) : In0 (addI2 p (negI2 p)) := by
  unfold In0 addI2 addLo addHi negI2
  dsimp only
  by_cases q : Ent p.1 p.2 ∨ Ent (-p.2) (-p.1)
  · rw [if_pos q, if_pos q]; decide
  · rw [if_neg q, if_neg q]
    exact mk_in0 (by omega)
theorem sub_self_ok {a : Mo} (h : VB2 a.2) : (addM a (negM a)).1 = [] ∧ In0 (addM a (negM a)).2 := by
  unfold addM
  rw [show (negM a).1 = negT a.1 from rfl, show (negM a).2 = negI2 a.2 from rfl, sum_neg]
  dsimp only
  have hv : a.2.1 ≤ a.2.2 := vb_leY h
  have hi := add_in0 (p := (0, 0)) ⟨Int.le_refl _, Int.le_refl _⟩ (neg_in0 hv)
  unfold normM
  split
  · exact ⟨rfl, by unfold In0; decide⟩
  · exact ⟨rfl, hi⟩
end Go.Proofs.YthakeeinhgfbbaaGreat

namespace Go.Proofs.YthakeeinhgfbbaaGreat
open Go.ChangeShapes Go.WideShapes Go.ChangeAt Go.RowKit
set_option linter.unusedVariables false
set_option linter.unusedSimpArgs false
set_option maxRecDepth 100000

attribute [local irreducible] Calls
def pmC (s e : List Int) : Nat → Int
  | 0 => 1
  | j + 1 => pmC s e j * cnr s j ^ (e.getD j 0).toNat
def cvT (s : List Int) (t : Tm) : Int := t.1 * pmC s t.2 6
def cvS (s : List Int) (l : List Tm) : Int := (l.map (cvT s)).sum
theorem cvS_snoc {s : List Int} {l : List Tm} {k : Nat} {x : Tm} (hx : l[k]? = some x) : cvS s (l.take (k + 1)) = cvS s (l.take k) + cvT s x := by
  unfold cvS
  rw [List.take_add_one, hx, List.map_append, List.sum_append]
  simp
theorem one_pow {v : Int} (h : -1 ≤ v ∧ v ≤ 1) : ∀ n : Nat, -1 ≤ v ^ n ∧ v ^ n ≤ 1
  | 0 => by simp
  | n + 1 => by
    have := one_pow h n
    rw [Int.pow_succ]
    rcases (show v = -1 ∨ v = 0 ∨ v = 1 by omega) with rfl | rfl | rfl <;> omega
theorem one_mul1 {a b : Int} (h : -1 ≤ a ∧ a ≤ 1) (k : -1 ≤ b ∧ b ≤ 1) : -1 ≤ a * b ∧ a * b ≤ 1 := by
  rcases (show a = -1 ∨ a = 0 ∨ a = 1 by omega) with rfl | rfl | rfl <;> omega
theorem pmC_one (s e : List Int) : ∀ j, -1 ≤ pmC s e j ∧ pmC s e j ≤ 1
  | 0 => by unfold pmC; omega
  | j + 1 => by unfold pmC; exact one_mul1 (pmC_one s e j) (one_pow (cnr_bd s j) _)
theorem small_mul {c v B : Int} (hc : -B ≤ c ∧ c ≤ B) (hv : -1 ≤ v ∧ v ≤ 1) : -B ≤ c * v ∧ c * v ≤ B := by
  rcases (show v = -1 ∨ v = 0 ∨ v = 1 by omega) with rfl | rfl | rfl <;> omega
theorem cvT_bd (s : List Int) {t : Tm} (h : Num t.1) : -2147483648 ≤ cvT s t ∧ cvT s t ≤ 2147483648 := by
  unfold Num at h
  exact small_mul (by omega) (pmC_one s t.2 6)
theorem cvS_bd (s : List Int) : ∀ (l : List Tm), (∀ t ∈ l, Num t.1) → -(2147483648 * (l.length : Int)) ≤ cvS s l ∧ cvS s l ≤ 2147483648 * l.length
  | [], _ => by simp [cvS]
  | t :: l, h => by
    have h1 := cvT_bd s (h t (by simp))
    have h2 := cvS_bd s l fun x hx => h x (by simp [hx])
    unfold cvS at *
    rw [List.map_cons, List.sum_cons, List.length_cons]
    push_cast
    omega
set_option maxHeartbeats 16000000 in
theorem atc_ok (u vs : Value) (l : List Tm) (s : List Int) (w : World) (hu : Tx w u l) (hs : S8 w vs s) (hl : ∀ t ∈ l, TV t ∧ Num t.1 ∧ ∀ x ∈ t.2, x ≤ 6) (hb : ∀ x ∈ s, -128 ≤ x ∧ x ≤ 127) (hsm : l.length ≤ 1000) :
    Calls Tryz.prog 87 #[u, vs] w fun e w' => e = .returned (.int .i64 (cvS s l)) ∧ w = w' := by
  obtain ⟨p, c, rfl⟩ := hu.cut
  obtain ⟨hm2, q, d, rfl, hsc⟩ := hs
  unfold maxLen at hm2
  have HU := Lib.hid hu
  have HS := Lib.hid hsc
  have HL := Lib.hid hl
  have HB := Lib.hid hb
  have HSB := Lib.hid (fun k => cvS_bd s (l.take k) fun t ht => (hl t (List.mem_of_mem_take ht)).2.1)
  clear hu hsc hl hb
  go_enter Tryz.func87, Tryz.ntmps87
  go_wp2_with (fail)
  go_loopw [5, 6] (fun o i wr => ∃ k : Nat, o = .int .i64 (cvS s (l.take k)) ∧ i = .int .i64 k ∧ k ≤ l.length ∧ wr = w) (fun _ i _ => l.length - (intOf i).toNat)
  case atStart => exact ⟨0, rfl, rfl, Nat.zero_le _, rfl⟩
  case round =>
    obtain ⟨k, rfl, rfl, hk, rfl⟩ := hrel
    by_cases hlt : k < l.length
    · have i1 : (k : Int) < l.length := by omega
      obtain ⟨t, hx⟩ : ∃ t, l[k]? = some t := ⟨_, List.getElem?_eq_getElem hlt⟩
      have htv := HL.out t (List.mem_of_getElem? hx)
      have hsn := cvS_snoc (s := s) hx
      have hob := HSB.out k
      rw [List.length_take] at hob
      have hcb := cvT_bd s htv.2.1
      obtain ⟨ka, e⟩ := t
      obtain ⟨b, o, hp, hbb, rd⟩ := HU.out.rd hx
      subst hp
      have hn := htv.2.1
      unfold Num at hn
      dsimp only at hn
      have f0 := rd ⟨wr, Below.refl _ _⟩ 0 (.int .i64 ka) rfl
      dsimp only at f0
      rw [Nat.add_zero] at f0
      have HRD := Lib.hid rd
      have HTV := Lib.hid htv
      have HSN := Lib.hid hsn
      obtain ⟨O, hO⟩ : ∃ O, cvS s (l.take k) = O := ⟨_, rfl⟩
      rw [hO] at hob
      have HOO := Lib.hid hO
      rw [hO]
      obtain ⟨Z, hZ⟩ : ∃ Z, cvT s (ka, e) = Z := ⟨_, rfl⟩
      rw [hZ] at hcb
      have HZZ := Lib.hid hZ
      have Wo : IntKind.i64.wrap (O + Z) = O + Z := wrap_i64 _ (by omega) (by omega)
      clear rd htv hsn hx hO hZ
      go_wp2_with (fail)
      go_loopw [7, 8] (fun c j wr' => ∃ jj : Nat, c = .int .i64 (ka * pmC s e jj) ∧ j = .int .i64 jj ∧ jj ≤ 6 ∧ wr' = wr) (fun _ j _ => 6 - (intOf j).toNat)
      case atStart => exact ⟨0, by rw [show pmC s e 0 = 1 from rfl, Int.mul_one], rfl, Nat.zero_le _, rfl⟩
      case round =>
        obtain ⟨jj, rfl, rfl, hj, rfl⟩ := hrel
        by_cases hjl : jj < 6
        · have i2 : (jj : Int) < 6 := by omega
          obtain ⟨x, hy⟩ : ∃ x, e[jj]? = some x := ⟨_, List.getElem?_eq_getElem (by rw [HTV.out.1.1.1]; exact hjl)⟩
          have hxb := HTV.out.1.1.2 x (List.mem_of_getElem? hy)
          have hx6 := HTV.out.2.2 x (List.mem_of_getElem? hy)
          obtain ⟨nx, rfl⟩ : ∃ n : Nat, x = n := ⟨x.toNat, by omega⟩
          have he : (encT (ka, e))[jj + 1]? = some (.int .u8 (nx : Int)) := by simp [encT, hy]
          have cx := HRD.out ⟨wr, Below.refl _ _⟩ (jj + 1) _ he
          rw [show o + k * 7 + (jj + 1) = o + k * 7 + 1 + jj by omega] at cx
          dsimp only at cx
          have hpm : pmC s e (jj + 1) = pmC s e jj * cnr s jj ^ nx := by
            show pmC s e jj * _ = _
            rw [List.getD_eq_getElem?_getD, hy]
            rfl
          have hcv := cnr_bd s jj
          have hC := small_mul (c := ka) (B := 2147483648) (by omega) (pmC_one s e jj)
          obtain ⟨C, hCC⟩ : ∃ C, ka * pmC s e jj = C := ⟨_, rfl⟩
          have HPM : Hid (ka * pmC s e (jj + 1) = C * cnr s jj ^ nx) := Lib.hid (by rw [hpm, ← Int.mul_assoc, hCC])
          rw [hCC] at hC ⊢
          obtain ⟨v, hv⟩ : ∃ v, cnr s jj = v := ⟨_, rfl⟩
          rw [hv] at hcv HPM
          clear he hpm hCC hy hxb
          by_cases hjs : jj < s.length
          · have i3 : (jj : Int) < s.length := by omega
            obtain ⟨y, hy⟩ : ∃ y, s[jj]? = some y := ⟨_, List.getElem?_eq_getElem hjs⟩
            have hyb := HB.out y (List.mem_of_getElem? hy)
            obtain ⟨bs, os, rfl, hbs, hcell⟩ := HS.out jj y hy
            have Wy : IntKind.i64.wrap y = y := wrap_i64 _ (by omega) (by omega)
            have Ty : y.tmod 2 = v := by rw [← hv]; simp [cnr, hy]
            clear hy hyb hv
            go_wp2_with (fail)
            go_loopw [7, 10] (fun c n wr'' => ∃ q : Nat, c = .int .i64 (C * v ^ q) ∧ n = .int .u8 q ∧ q ≤ nx ∧ wr'' = wr) (fun _ n _ => nx - (intOf n).toNat)
            case atStart => exact ⟨0, by rw [Int.pow_zero, Int.mul_one], rfl, Nat.zero_le _, rfl⟩
            case round =>
              obtain ⟨z, rfl, rfl, hz, rfl⟩ := hrel
              by_cases hzl : z < nx
              · have j1 : (z : Int) < nx := by omega
                have j2 : (z : Int) < 8 := by omega
                have hb1 := small_mul (c := C) (B := 2147483648) hC (one_pow hcv z)
                have hb2 := small_mul (c := C) (B := 2147483648) hC (one_pow hcv (z + 1))
                have hps : C * v ^ z * v = C * v ^ (z + 1) := by rw [Int.pow_succ, Int.mul_assoc]
                obtain ⟨c1, hc1⟩ : ∃ c, C * v ^ z = c := ⟨_, rfl⟩
                obtain ⟨c2, hc2⟩ : ∃ c, C * v ^ (z + 1) = c := ⟨_, rfl⟩
                rw [hc1] at hb1 hps
                rw [hc2] at hb2 hps
                rw [hc1]
                have Wc : IntKind.i64.wrap (c1 * v) = c2 := by rw [hps]; exact wrap_i64 _ (by omega) (by omega)
                have Wz : IntKind.u8.wrap ((z : Int) + 1) = (z : Int) + 1 := by rw [wrap_u8 _ (by omega)]; omega
                have HC2 := Lib.hid hc2
                clear hps hb1 hb2 hc1 hc2
                go_wp2_with (fail)
                exact ⟨⟨z + 1, by rw [HC2.out], by go_num, by omega, by first | rfl | trivial⟩, by simp [intOf]; omega⟩
              · obtain rfl : z = nx := by omega
                have j1 : ¬ (z : Int) < z := by omega
                go_wp2_with (fail)
                exact ⟨⟨jj + 1, by rw [HPM.out], by go_num, by omega, by first | rfl | trivial⟩, by simp [intOf]; omega⟩
          · have i3 : ¬ (jj : Int) < s.length := by omega
            obtain rfl : v = 0 := by rw [← hv]; simp [cnr, List.getElem?_eq_none (Nat.le_of_not_lt hjs)]
            clear hv
            go_wp2_with (fail)
            go_loopw [7, 10] (fun c n wr'' => ∃ q : Nat, c = .int .i64 (C * 0 ^ q) ∧ n = .int .u8 q ∧ q ≤ nx ∧ wr'' = wr) (fun _ n _ => nx - (intOf n).toNat)
            case atStart => exact ⟨0, by rw [Int.pow_zero, Int.mul_one], rfl, Nat.zero_le _, rfl⟩
            case round =>
              obtain ⟨z, rfl, rfl, hz, rfl⟩ := hrel
              by_cases hzl : z < nx
              · have j1 : (z : Int) < nx := by omega
                have j2 : (z : Int) < 8 := by omega
                have hb1 := small_mul (c := C) (B := 2147483648) hC (one_pow hcv z)
                have hb2 := small_mul (c := C) (B := 2147483648) hC (one_pow hcv (z + 1))
                have hps : C * 0 ^ z * 0 = C * 0 ^ (z + 1) := by rw [Int.pow_succ, Int.mul_assoc]
                obtain ⟨c1, hc1⟩ : ∃ c, C * 0 ^ z = c := ⟨_, rfl⟩
                obtain ⟨c2, hc2⟩ : ∃ c, C * 0 ^ (z + 1) = c := ⟨_, rfl⟩
                rw [hc1] at hb1 hps
                rw [hc2] at hb2 hps
                rw [hc1]
                have Wc : IntKind.i64.wrap (c1 * 0) = c2 := by rw [hps]; exact wrap_i64 _ (by omega) (by omega)
                have Wz : IntKind.u8.wrap ((z : Int) + 1) = (z : Int) + 1 := by rw [wrap_u8 _ (by omega)]; omega
                have HC2 := Lib.hid hc2
                clear hps hb1 hb2 hc1 hc2
                go_wp2_with (fail)
                exact ⟨⟨z + 1, by rw [HC2.out, show c2 = 0 by rw [← HC2.out, Int.pow_succ, Int.mul_zero, Int.mul_zero]], by go_num, by omega, by first | rfl | trivial⟩, by simp [intOf]; omega⟩
              · obtain rfl : z = nx := by omega
                have j1 : ¬ (z : Int) < z := by omega
                go_wp2_with (fail)
                exact ⟨⟨jj + 1, by rw [HPM.out], by go_num, by omega, by first | rfl | trivial⟩, by simp [intOf]; omega⟩
        · obtain rfl : jj = 6 := by omega
          have i2 : ¬ ((6 : Nat) : Int) < 6 := by omega
          rw [show ka * pmC s e 6 = Z from HZZ.out]
          go_wp2_with (fail)
          exact ⟨⟨k + 1, by rw [HSN.out, HOO.out, HZZ.out], by go_num, by omega, by first | rfl | trivial⟩, by simp [intOf]; omega⟩
    · obtain rfl : k = l.length := by omega
      have i1 : ¬ (l.length : Int) < l.length := by omega
      rw [List.take_length]
      go_wp2_with (fail)
      go_ret
      exact ⟨rfl, rfl⟩

theorem atc_b (u vs : Value) (l : List Tm) (s : List Int) (w : World) (hu : Tx w u l) (hs : S8 w vs s) (hl : ∀ t ∈ l, TV t ∧ Num t.1 ∧ ∀ x ∈ t.2, x ≤ 6) (hb : ∀ x ∈ s, -128 ≤ x ∧ x ≤ 127) (hsm : l.length ≤ 1000) :
    Calls Tryz.prog 87 #[u, vs] w fun e w' => e = .returned (.int .i64 (cvS s l)) ∧ Below w.heap.size w w' := by
  refine (atc_ok u vs l s w hu hs hl hb hsm).mono ?_
  rintro e w' ⟨rfl, rfl⟩
  exact ⟨rfl, Below.refl _ _⟩
/-- A value of a model at a corner. -/
def valM (s : List Int) (a : Mo) (x : Int) : Int := cvS s a.1 + a.2.1 + (a.2.2 - a.2.1) * x / 65535
theorem frac_bd {d x : Int} (hd : 0 ≤ d) (hx : 0 ≤ x ∧ x ≤ 65535) : 0 ≤ d * x ∧ d * x ≤ d * 65535 := ⟨Int.mul_nonneg hd hx.1, Int.mul_le_mul_of_nonneg_left hx.2 hd⟩
set_option maxHeartbeats 8000000 in
theorem valat_ok (u vs : Value) (l : List Tm) (s : List Int) (a0 a1 x : Int) (w : World) (hu : Tx w u l) (hs : S8 w vs s) (hl : ∀ t ∈ l, TV t ∧ Num t.1 ∧ ∀ x ∈ t.2, x ≤ 6) (hb : ∀ x ∈ s, -128 ≤ x ∧ x ≤ 127) (hsm : l.length ≤ 100) (h01 : a0 ≤ a1) (h0 : -2147483648 ≤ a0) (h1 : a1 ≤ 2147483648) (hx : 0 ≤ x ∧ x ≤ 65535) :
    Calls Tryz.prog 40 #[.agg #[u, .int .i64 a0, .int .i64 a1], vs, .int .u16 x] w fun e w' => e = .returned (.int .i64 (valM s (l, (a0, a1)) x)) ∧ Below w.heap.size w w' := by
  obtain ⟨p, c, rfl⟩ := hu.cut
  obtain ⟨ps, ds, rfl⟩ : ∃ p c, vs = .slice p s.length c := ⟨_, _, hs.2.choose_spec.choose_spec.1⟩
  have hcb := cvS_bd s l fun t ht => (hl t ht).2.1
  have KA := Lib.hid (fun w h1 h2 => atc_b (.slice p l.length c) (.slice ps s.length ds) l s w h1 h2 hl hb (by omega))
  have HU := Lib.hid hu
  have HS := Lib.hid hs
  have hf := frac_bd (d := a1 - a0) (by omega) hx
  unfold valM
  dsimp only
  obtain ⟨C, hC⟩ : ∃ C, cvS s l = C := ⟨_, rfl⟩
  rw [hC] at hcb KA ⊢
  obtain ⟨D, hD⟩ : ∃ D, a1 - a0 = D := ⟨_, rfl⟩
  rw [hD] at hf ⊢
  obtain ⟨E, hE⟩ : ∃ E, D * x = E := ⟨_, rfl⟩
  rw [hE] at hf ⊢
  have W1 : IntKind.i64.wrap (C + a0) = C + a0 := wrap_i64 _ (by omega) (by omega)
  have W2 : IntKind.i64.wrap (a1 - a0) = D := by rw [hD]; exact wrap_i64 _ (by omega) (by omega)
  have W3 : IntKind.i64.wrap (D * x) = E := by rw [hE]; exact wrap_i64 _ (by omega) (by omega)
  have W4 : IntKind.i64.wrap x = x := wrap_i64 _ (by omega) (by omega)
  have T5 : E.tdiv 65535 = E / 65535 := Int.tdiv_eq_ediv_of_nonneg hf.1
  have W5 : IntKind.i64.wrap (E / 65535) = E / 65535 := wrap_i64 _ (by omega) (by omega)
  have W6 : IntKind.i64.wrap (C + a0 + E / 65535) = C + a0 + E / 65535 := wrap_i64 _ (by omega) (by omega)
  have W7 : wrap64 x = x := by first | exact wrap_i64 x (by omega) (by omega) | (unfold wrap64; omega)
  have hba : Below w.heap.size w (w.alloc (.cells #[.slice p l.length c, .int .i64 a0, .int .i64 a1] 26)) := (Below.refl _ _).alloc (Nat.le_refl _) _
  have HM := Lib.hid (MoC.new w (.slice p l.length c) a0 a1)
  have HBA := Lib.hid hba
  obtain ⟨F, hF⟩ : ∃ F, E / 65535 = F := ⟨_, rfl⟩
  rw [hF] at T5 W5 W6 ⊢
  clear hu hs hl hb hC hD hE hF hcb hf hba hx
  go_enter Tryz.func40, Tryz.ntmps40
  go_wp2_with (fail)
  generalize hW0 : World.alloc w _ = W0 at *
  clear hW0
  have k0 := fun g : Grown W0 => (HM.out.grow g.h).c0
  have k1 := fun g : Grown W0 => (HM.out.grow g.h).c1
  have k2 := fun g : Grown W0 => (HM.out.grow g.h).c2
  dsimp only at k0 k1 k2
  refine region_pred (lk [(7, fun z_ _ => z_ = .pointer (some ⟨w.heap.size, 0, none⟩)), (8, fun z_ _ => z_ = (.slice p l.length c)), (9, fun z_ _ => z_ = (.slice ps s.length ds)), (10, fun z_ _ => z_ = .int .i64 C), (11, fun z_ _ => z_ = .pointer (some ⟨w.heap.size, 1, none⟩)), (12, fun z_ _ => z_ = .pointer (some ⟨w.heap.size, 1, none⟩)), (13, fun z_ _ => z_ = .int .i64 a0), (14, fun z_ _ => z_ = .int .i64 (C + a0)), (15, fun z_ _ => z_ = .pointer (some ⟨w.heap.size, 1, none⟩)), (16, fun z_ _ => z_ = .pointer (some ⟨w.heap.size, 2, none⟩)), (17, fun z_ _ => z_ = .int .i64 a1), (18, fun z_ _ => z_ = .pointer (some ⟨w.heap.size, 1, none⟩)), (19, fun z_ _ => z_ = .pointer (some ⟨w.heap.size, 1, none⟩)), (20, fun z_ _ => z_ = .int .i64 a0), (21, fun z_ _ => z_ = .int .i64 D), (22, fun z_ _ => z_ = .int .u16 x), (23, fun z_ _ => z_ = .int .i64 x), (24, fun z_ _ => z_ = .int .i64 E), (25, fun z_ _ => z_ = .int .i64 F), (26, fun z_ _ => z_ = .int .i64 (C + a0 + F)), (6, fun z_ _ => z_ = .int .i64 (C + a0 + F))]) (by kernel_rfl) (by kernel_rfl) (lk_steady _ ⟨steady_eq _, steady_eq _, steady_eq _, steady_eq _, steady_eq _, steady_eq _, steady_eq _, steady_eq _, steady_eq _, steady_eq _, steady_eq _, steady_eq _, steady_eq _, steady_eq _, steady_eq _, steady_eq _, steady_eq _, steady_eq _, steady_eq _, steady_eq _, steady_eq _, trivial⟩) ?_ ?_
  · refine ⟨?_, ?_, ?_, ?_, ?_, ?_, ?_, ?_, ?_, ?_, ?_, ?_, ?_, ?_, ?_, ?_, ?_, ?_, ?_, ?_, ?_, trivial⟩
    · refine ob_plain [3] rfl rfl fun aa g h => ?_
      have yy0 := seen_out (v := .pointer (some ⟨w.heap.size, 0, none⟩)) rfl rfl h.1
      have ee0 := getD_of yy0
      exact tupon_value (v := .pointer (some ⟨w.heap.size, 0, none⟩)) (by simp [go_sem, ee0, yy0]) (Below.refl _ _) rfl
    · refine ob_plain [7] rfl rfl fun aa g h => ?_
      obtain ⟨_, yy0, rfl⟩ := seen_in rfl h.1
      have ee0 := getD_of yy0
      exact tupon_value (v := (.slice p l.length c)) (by simp [go_sem, ee0, yy0, k0 g]) (Below.refl _ _) rfl
    · refine ob_plain [1] rfl rfl fun aa g h => ?_
      have yy0 := seen_out (v := (.slice ps s.length ds)) rfl rfl h.1
      have ee0 := getD_of yy0
      exact tupon_value (v := (.slice ps s.length ds)) (by simp [go_sem, ee0, yy0]) (Below.refl _ _) rfl
    · refine ob_plain [8, 9] rfl rfl fun aa g h => ?_
      obtain ⟨_, yy0, rfl⟩ := seen_in rfl h.1
      have ee0 := getD_of yy0
      obtain ⟨_, yy1, rfl⟩ := seen_in rfl h.2.1
      have ee1 := getD_of yy1
      refine tupon_enter (f := 87) (args := #[(.slice p l.length c), (.slice ps s.length ds)]) (by simp [go_sem, ee0, yy0, ee1, yy1]) rfl ?_
      exact (KA.out g.w (HU.out.grow (below_then HBA.out g.h)) (HS.out.grow (below_then HBA.out g.h))).mono fun e w' ⟨he, hB⟩ => ⟨_, he, hB, rfl⟩
    · refine ob_plain [3] rfl rfl fun aa g h => ?_
      have yy0 := seen_out (v := .pointer (some ⟨w.heap.size, 0, none⟩)) rfl rfl h.1
      have ee0 := getD_of yy0
      exact tupon_value (v := .pointer (some ⟨w.heap.size, 1, none⟩)) (by simp [go_sem, ee0, yy0]) (Below.refl _ _) rfl
    · refine ob_plain [11] rfl rfl fun aa g h => ?_
      obtain ⟨_, yy0, rfl⟩ := seen_in rfl h.1
      have ee0 := getD_of yy0
      exact tupon_value (v := .pointer (some ⟨w.heap.size, 1, none⟩)) (by simp [go_sem, ee0, yy0]) (Below.refl _ _) rfl
    · refine ob_plain [12] rfl rfl fun aa g h => ?_
      obtain ⟨_, yy0, rfl⟩ := seen_in rfl h.1
      have ee0 := getD_of yy0
      exact tupon_value (v := .int .i64 a0) (by simp [go_sem, ee0, yy0, k1 g]) (Below.refl _ _) rfl
    · refine ob_plain [10, 13] rfl rfl fun aa g h => ?_
      obtain ⟨_, yy0, rfl⟩ := seen_in rfl h.1
      have ee0 := getD_of yy0
      obtain ⟨_, yy1, rfl⟩ := seen_in rfl h.2.1
      have ee1 := getD_of yy1
      exact tupon_value (v := .int .i64 (C + a0)) (by simp [go_sem, ee0, yy0, ee1, yy1, W1]) (Below.refl _ _) rfl
    · refine ob_plain [3] rfl rfl fun aa g h => ?_
      have yy0 := seen_out (v := .pointer (some ⟨w.heap.size, 0, none⟩)) rfl rfl h.1
      have ee0 := getD_of yy0
      exact tupon_value (v := .pointer (some ⟨w.heap.size, 1, none⟩)) (by simp [go_sem, ee0, yy0]) (Below.refl _ _) rfl
    · refine ob_plain [15] rfl rfl fun aa g h => ?_
      obtain ⟨_, yy0, rfl⟩ := seen_in rfl h.1
      have ee0 := getD_of yy0
      exact tupon_value (v := .pointer (some ⟨w.heap.size, 2, none⟩)) (by simp [go_sem, ee0, yy0]) (Below.refl _ _) rfl
    · refine ob_plain [16] rfl rfl fun aa g h => ?_
      obtain ⟨_, yy0, rfl⟩ := seen_in rfl h.1
      have ee0 := getD_of yy0
      exact tupon_value (v := .int .i64 a1) (by simp [go_sem, ee0, yy0, k2 g]) (Below.refl _ _) rfl
    · refine ob_plain [3] rfl rfl fun aa g h => ?_
      have yy0 := seen_out (v := .pointer (some ⟨w.heap.size, 0, none⟩)) rfl rfl h.1
      have ee0 := getD_of yy0
      exact tupon_value (v := .pointer (some ⟨w.heap.size, 1, none⟩)) (by simp [go_sem, ee0, yy0]) (Below.refl _ _) rfl
    · refine ob_plain [18] rfl rfl fun aa g h => ?_
      obtain ⟨_, yy0, rfl⟩ := seen_in rfl h.1
      have ee0 := getD_of yy0
      exact tupon_value (v := .pointer (some ⟨w.heap.size, 1, none⟩)) (by simp [go_sem, ee0, yy0]) (Below.refl _ _) rfl
    · refine ob_plain [19] rfl rfl fun aa g h => ?_
      obtain ⟨_, yy0, rfl⟩ := seen_in rfl h.1
      have ee0 := getD_of yy0
      exact tupon_value (v := .int .i64 a0) (by simp [go_sem, ee0, yy0, k1 g]) (Below.refl _ _) rfl
    · refine ob_plain [17, 20] rfl rfl fun aa g h => ?_
      obtain ⟨_, yy0, rfl⟩ := seen_in rfl h.1
      have ee0 := getD_of yy0
      obtain ⟨_, yy1, rfl⟩ := seen_in rfl h.2.1
      have ee1 := getD_of yy1
      exact tupon_value (v := .int .i64 D) (by simp [go_sem, ee0, yy0, ee1, yy1, W2]) (Below.refl _ _) rfl
    · refine ob_plain [2] rfl rfl fun aa g h => ?_
      have yy0 := seen_out (v := .int .u16 x) rfl rfl h.1
      have ee0 := getD_of yy0
      exact tupon_value (v := .int .u16 x) (by simp [go_sem, ee0, yy0]) (Below.refl _ _) rfl
    · refine ob_plain [22] rfl rfl fun aa g h => ?_
      obtain ⟨_, yy0, rfl⟩ := seen_in rfl h.1
      have ee0 := getD_of yy0
      exact tupon_value (v := .int .i64 x) (by simp [go_sem, ee0, yy0, W4, W7]) (Below.refl _ _) rfl
    · refine ob_plain [21, 23] rfl rfl fun aa g h => ?_
      obtain ⟨_, yy0, rfl⟩ := seen_in rfl h.1
      have ee0 := getD_of yy0
      obtain ⟨_, yy1, rfl⟩ := seen_in rfl h.2.1
      have ee1 := getD_of yy1
      exact tupon_value (v := .int .i64 E) (by simp [go_sem, ee0, yy0, ee1, yy1, W3]) (Below.refl _ _) rfl
    · refine ob_plain [24] rfl rfl fun aa g h => ?_
      obtain ⟨_, yy0, rfl⟩ := seen_in rfl h.1
      have ee0 := getD_of yy0
      exact tupon_value (v := .int .i64 F) (by simp [go_sem, ee0, yy0, T5, W5]) (Below.refl _ _) rfl
    · refine ob_plain [14, 25] rfl rfl fun aa g h => ?_
      obtain ⟨_, yy0, rfl⟩ := seen_in rfl h.1
      have ee0 := getD_of yy0
      obtain ⟨_, yy1, rfl⟩ := seen_in rfl h.2.1
      have ee1 := getD_of yy1
      exact tupon_value (v := .int .i64 (C + a0 + F)) (by simp [go_sem, ee0, yy0, ee1, yy1, W6]) (Below.refl _ _) rfl
    · refine ob_plain [26] rfl rfl fun aa g h => ?_
      obtain ⟨_, yy0, rfl⟩ := seen_in rfl h.1
      have ee0 := getD_of yy0
      exact tupon_value (v := .int .i64 (C + a0 + F)) (by simp [go_sem, ee0, yy0]) (Below.refl _ _) rfl
  rintro w5 hB5 _ rfl _ rfl _ rfl _ rfl _ rfl _ rfl _ rfl _ rfl _ rfl _ rfl _ rfl _ rfl _ rfl _ rfl _ rfl _ rfl _ rfl _ rfl _ rfl _ rfl _ rfl
  simp only [Act.put, List.setIfInBounds_toArray, List.set_cons_succ, List.set_cons_zero, List.filterMap_nil, finP]
  go_wp2_with (fail)
  go_ret
  exact ⟨rfl, below_then HBA.out hB5⟩
set_option maxHeartbeats 8000000 in
theorem hv_ok (u vs : Value) (l : List Tm) (s : List Int) (a b x : Int) (H : Bool) (w : World) (hu : Tx w u l) (hs : S8 w vs s) (hl : ∀ t ∈ l, TV t ∧ Num t.1 ∧ ∀ x ∈ t.2, x ≤ 6) (hb : ∀ x ∈ s, -128 ≤ x ∧ x ≤ 127) (hsm : l.length ≤ 100) (hbd : -2147483648 ≤ a ∧ a ≤ 2147483648 ∧ -2147483648 ≤ b ∧ b ≤ 2147483648) (hH : H = true ↔ Ent a b ∨ (cvS s l + a) * 65536 ≤ x ∧ x ≤ (cvS s l + b) * 65536) :
    Calls Tryz.prog 42 #[.agg #[u, .int .i64 a, .int .i64 b], vs, .int .i64 x] w fun e w' => e = .returned (.bool H) ∧ Below w.heap.size w w' := by
  obtain ⟨p, c, rfl⟩ := hu.cut
  have hcb := cvS_bd s l fun t ht => (hl t ht).2.1
  have KA := Lib.hid (atc_ok (.slice p l.length c) vs l s (w.alloc (.cells #[.slice p l.length c, .int .i64 a, .int .i64 b] 26)) (hu.grow ((Below.refl _ _).alloc (Nat.le_refl _) _)) (hs.grow ((Below.refl _ _).alloc (Nat.le_refl _) _)) hl hb (by omega))
  obtain ⟨C, hC⟩ : ∃ C, cvS s l = C := ⟨_, rfl⟩
  rw [hC] at hcb KA hH
  have W1 : IntKind.i64.wrap (C + a) = C + a := wrap_i64 _ (by omega) (by omega)
  have W2 : IntKind.i64.wrap (C + b) = C + b := wrap_i64 _ (by omega) (by omega)
  have W3 : IntKind.i64.wrap ((C + a) * 65536) = (C + a) * 65536 := wrap_i64 _ (by omega) (by omega)
  have W4 : IntKind.i64.wrap ((C + b) * 65536) = (C + b) * 65536 := wrap_i64 _ (by omega) (by omega)
  obtain ⟨P, hP⟩ : ∃ P, (C + a) * 65536 = P := ⟨_, rfl⟩
  obtain ⟨Q, hQ⟩ : ∃ P, (C + b) * 65536 = P := ⟨_, rfl⟩
  rw [hP] at W3 hH
  rw [hQ] at W4 hH
  have V3 : wrap64 ((C + a) * 65536) = P := by unfold wrap64; omega
  have V4 : wrap64 ((C + b) * 65536) = Q := by unfold wrap64; omega
  have hM := Lib.hid (MoC.new w (.slice p l.length c) a b)
  have HBA : Hid (Below w.heap.size w (w.alloc (.cells #[.slice p l.length c, .int .i64 a, .int .i64 b] 26))) := Lib.hid ((Below.refl _ _).alloc (Nat.le_refl _) _)
  have HH := Lib.hid hH
  clear hu hs hl hb hC hcb hP hQ hH
  go_enter Tryz.func42, Tryz.ntmps42
  go_wp2_with (fail)
  refine KA.out.mono ?_
  rintro e w1 ⟨rfl, rfl⟩
  have q1 := hM.out.c1
  have q2 := hM.out.c2
  dsimp only at q1 q2
  by_cases hE : Ent a b
  · have hT : H = true := HH.out.2 (.inl hE)
    subst hT
    obtain ⟨rfl, rfl⟩ := hE
    go_wp2_with (fail)
    refine (r2ent_yes _).mono ?_
    rintro e w2 ⟨rfl, hB2⟩
    clear q1 q2
    go_wp2_with (fail)
    go_ret
    exact ⟨rfl, below_then HBA.out hB2⟩
  · have KE := Lib.hid (fun w => r2ent_no a b w hE)
    have hHH : H = true ↔ P ≤ x ∧ x ≤ Q := by
      rw [HH.out]
      exact ⟨fun h => h.resolve_left hE, .inr⟩
    clear hE
    go_wp2_with (fail)
    refine (KE.out _).mono ?_
    rintro e w2 ⟨rfl, hB2⟩
    have hM2 := hM.out.grow hB2
    clear q1 q2
    have q1 := hM2.c1
    have q2 := hM2.c2
    dsimp only at q1 q2
    by_cases h1 : P ≤ x
    · by_cases h2 : x ≤ Q
      · have hT : H = true := hHH.2 ⟨h1, h2⟩
        subst hT
        clear hHH
        have D1 : decide (P ≤ x) = true := by simpa using h1
        have D2 : decide (x ≤ Q) = true := by simpa using h2
        go_wp2_with (fail)
        go_ret
        exact ⟨by simp [D1, D2, V3, V4, h1, h2], below_then HBA.out hB2⟩
      · have hT : H = false := by
          cases H with
          | false => rfl
          | true => exact absurd (hHH.1 rfl).2 h2
        subst hT
        clear hHH
        have D1 : decide (P ≤ x) = true := by simpa using h1
        have D2 : decide (x ≤ Q) = false := by simpa using h2
        go_wp2_with (fail)
        go_ret
        exact ⟨by simp [D1, D2, V3, V4, h1, h2], below_then HBA.out hB2⟩
    · have hT : H = false := by
        cases H with
        | false => rfl
        | true => exact absurd (hHH.1 rfl).1 h1
      subst hT
      clear hHH
      have D1 : decide (P ≤ x) = false := by simpa using h1
      go_wp2_with (fail)
      go_ret
      exact ⟨by simp [D1, V3, V4, h1], below_then HBA.out hB2⟩
theorem r2ent6 (a b : Int) (E : Bool) (w : World) (h : E = true ↔ Ent a b) :
    Calls Tryz.prog 39 #[.agg #[.int .i64 a, .int .i64 b]] w fun e w' => e = .returned (.bool E) ∧ Below w.heap.size w w' := by
  cases E with
  | false => exact r2ent_no a b w (fun q => Bool.noConfusion (h.2 q))
  | true =>
    obtain ⟨rfl, rfl⟩ := h.1 rfl
    exact r2ent_yes w
set_option maxHeartbeats 8000000 in
theorem rvalid6_ok (u : Value) (a0 a1 : Int) (l : List Tm) (R : Bool) (w : World) (hu : Tx w u l) (hl : ∀ t ∈ l, TV t) (hR : R = true ↔ VP l ∧ VI a0 a1 ∧ (l = [] ∨ ¬ Ent a0 a1)) :
    Calls Tryz.prog 15 #[.agg #[u, .int .i64 a0, .int .i64 a1]] w fun e w' => e = .returned (.bool R) ∧ Below w.heap.size w w' := by
  obtain ⟨pu, cu, rfl⟩ := hu.cut
  have HU := Lib.hid hu
  have HL := Lib.hid hl
  obtain ⟨V, hV⟩ : ∃ V : Bool, V = true ↔ VP l := ⟨vpB l, vpB_iff l⟩
  have KV := Lib.hid (fun w h => r5valid_ok (.slice pu l.length cu) l V w h HL.out hV)
  obtain ⟨I, hI⟩ : ∃ I, decide (VI a0 a1) = I := ⟨_, rfl⟩
  have hII : I = true ↔ VI a0 a1 := by rw [← hI]; simp
  have KI := Lib.hid (fun w => r2valid a0 a1 I w hI)
  obtain ⟨E, hEE⟩ : ∃ E : Bool, E = true ↔ Ent a0 a1 := ⟨decide (Ent a0 a1), by simp⟩
  have KE := Lib.hid (fun w => r2ent6 a0 a1 E w hEE)
  have hRR : R = (V && I && (decide (l.length = 0) || !E)) := by
    rw [Bool.eq_iff_iff, hR]
    simp only [Bool.and_eq_true, Bool.or_eq_true, decide_eq_true_eq, List.length_eq_zero_iff, hV, hII, Bool.not_eq_true', and_assoc]
    have : E = false ↔ ¬ Ent a0 a1 := by rw [← hEE]; simp
    rw [this]
  subst hRR
  have l0 : ((l.length : Int) == 0) = decide (l.length = 0) := by
    by_cases h : l.length = 0
    · rw [h]; rfl
    · have : ¬ (l.length : Int) = 0 := by omega
      simp [h, this]
  obtain ⟨Z, hZ⟩ : ∃ Z, decide (l.length = 0) = Z := ⟨_, rfl⟩
  rw [hZ] at l0
  rw [hZ]
  have HM := Lib.hid (MoC.new w (.slice pu l.length cu) a0 a1)
  have HBA : Hid (Below w.heap.size w (w.alloc (.cells #[.slice pu l.length cu, .int .i64 a0, .int .i64 a1] 26))) := Lib.hid ((Below.refl _ _).alloc (Nat.le_refl _) _)
  clear hu hl hV hEE hI hII hZ hR
  go_enter Tryz.func15, Tryz.ntmps15
  go_wp2_with (fail)
  refine (KV.out _ (HU.out.grow HBA.out)).mono ?_
  rintro e w1 ⟨rfl, hB1⟩
  have hM1 := HM.out.grow hB1
  have hb1 := below_then HBA.out hB1
  have q1 := hM1.c1
  have q2 := hM1.c2
  dsimp only at q1 q2
  cases V with
  | false =>
    go_wp2_with (fail)
    go_ret
    exact ⟨rfl, hb1⟩
  | true =>
    go_wp2_with (fail)
    refine (KI.out _).mono ?_
    rintro e w2 ⟨rfl, hB2⟩
    have hM2 := hM1.grow hB2
    have hb2 := below_then hb1 hB2
    have r0 := hM2.c0
    have r1 := hM2.c1
    have r2 := hM2.c2
    dsimp only at r0 r1 r2
    clear q1 q2 hB2
    cases I with
    | false =>
      go_wp2_with (fail)
      go_ret
      exact ⟨rfl, hb2⟩
    | true =>
      cases Z with
      | true =>
        go_wp2_with (fail)
        go_ret
        exact ⟨rfl, hb2⟩
      | false =>
        go_wp2_with (fail)
        refine (KE.out _).mono ?_
        rintro e w3 ⟨rfl, hB3⟩
        have hb3 := below_then hb2 hB3
        clear r0 r1 r2
        go_wp2_with (fail)
        go_ret
        exact ⟨by cases E <;> rfl, hb3⟩
end Go.Proofs.YthakeeinhgfbbaaGreat

namespace Go.Proofs.YthakeeinhgfbbaaGreat
open Go.ChangeShapes Go.WideShapes Go.ChangeAt Go.RowKit
set_option linter.unusedVariables false
set_option linter.unusedSimpArgs false

theorem even_pow {v : Int} (hv : -1 ≤ v ∧ v ≤ 1) {n : Nat} (hn : n % 2 = 0) : 0 ≤ v ^ n ∧ v ^ n ≤ 1 := by
  obtain ⟨m, rfl⟩ : ∃ m, n = 2 * m := ⟨n / 2, by omega⟩
  rw [Int.pow_mul]
  have h2 : v ^ 2 = 0 ∨ v ^ 2 = 1 := by
    rcases (show v = -1 ∨ v = 0 ∨ v = 1 by omega) with rfl | rfl | rfl
    · exact .inr (by decide)
    · exact .inl (by decide)
    · exact .inr (by decide)
  have : ∀ m : Nat, 0 ≤ (v ^ 2) ^ m ∧ (v ^ 2) ^ m ≤ 1 := by
    intro m
    induction m with
    | zero => simp
    | succ m ih =>
      rw [Int.pow_succ]
      rcases h2 with h | h <;> rw [h] at ih ⊢ <;> omega
  exact this m
theorem get_ev {e : List Int} (he : EV e) (j : Nat) : 0 ≤ e.getD j 0 := by
  rw [List.getD_eq_getElem?_getD]
  cases h : e[j]? with
  | none => simp
  | some x => exact (he.2 x (List.mem_of_getElem? h)).1
theorem pmC_even (s : List Int) {e : List Int} (he : EV e) (hv : evenE e = true) : ∀ j, 0 ≤ pmC s e j ∧ pmC s e j ≤ 1
  | 0 => by unfold pmC; omega
  | j + 1 => by
    unfold pmC
    have h1 := pmC_even s he hv j
    have h2 : (e.getD j 0).toNat % 2 = 0 := by
      rw [List.getD_eq_getElem?_getD]
      cases h : e[j]? with
      | none => simp
      | some x =>
        have hx := List.all_eq_true.1 hv x (List.mem_of_getElem? h)
        have h0 := (he.2 x (List.mem_of_getElem? h)).1
        simp only [beq_iff_eq] at hx
        simp only [Option.getD_some]
        omega
    have h3 := even_pow (cnr_bd s j) h2
    rcases (show pmC s e j = 0 ∨ pmC s e j = 1 by omega) with h | h <;> rw [h] <;> omega
theorem deg_zero {e : List Int} (he : EV e) (h : degE e = 0) : ∀ x ∈ e, x = 0 := by
  obtain ⟨a, b, c, d, f, g, rfl⟩ := six_of he
  have hb := he.2
  simp only [List.mem_cons, List.not_mem_nil, or_false, forall_eq_or_imp, forall_eq] at hb
  simp only [degE, List.sum_cons, List.sum_nil] at h
  intro x hx
  simp only [List.mem_cons, List.not_mem_nil, or_false] at hx
  omega
theorem pmC_zero (s : List Int) {e : List Int} (h : ∀ x ∈ e, x = 0) : ∀ j, pmC s e j = 1
  | 0 => rfl
  | j + 1 => by
    unfold pmC
    rw [pmC_zero s h j]
    have : e.getD j 0 = 0 := by
      rw [List.getD_eq_getElem?_getD]
      cases q : e[j]? with
      | none => rfl
      | some x => exact h x (List.mem_of_getElem? q)
    rw [this]
    simp
theorem trg_cv (s : List Int) {t : Tm} (he : EV t.2) : (trg t).1 ≤ cvT s t ∧ cvT s t ≤ (trg t).2 := by
  unfold trg cvT
  by_cases h0 : degE t.2 = 0
  · rw [if_pos h0, pmC_zero s (deg_zero he h0) 6]
    dsimp only
    omega
  · rw [if_neg h0]
    by_cases h1 : evenE t.2 = true
    · rw [if_pos h1]
      have := pmC_even s he h1 6
      rcases (show pmC s t.2 6 = 0 ∨ pmC s t.2 6 = 1 by omega) with h | h <;> rw [h] <;> dsimp only <;> omega
    · rw [if_neg h1]
      have := pmC_one s t.2 6
      rcases (show pmC s t.2 6 = -1 ∨ pmC s t.2 6 = 0 ∨ pmC s t.2 6 = 1 by omega) with h | h | h <;> rw [h] <;> dsimp only <;> omega
theorem cvS_cons (s : List Int) (t : Tm) (l : List Tm) : cvS s (t :: l) = cvT s t + cvS s l := by simp [cvS]
theorem foldR_cv (s : List Int) : ∀ (l : List Tm) (m : Int × Int) (x : Int), m.1 ≤ x ∧ x ≤ m.2 → (∀ t ∈ l, EV t.2) → (l.foldl addR m).1 ≤ x + cvS s l ∧ x + cvS s l ≤ (l.foldl addR m).2
  | [], m, x, h, _ => by simpa [cvS] using h
  | t :: l, m, x, h, hl => by
    have h1 := trg_cv s (hl t (by simp))
    have h2 := foldR_cv s l (addR m t) (x + cvT s t) (by unfold addR; dsimp only; omega) fun u hu => hl u (by simp [hu])
    rw [List.foldl_cons, cvS_cons]
    omega
theorem cv_split (s : List Int) (f : Tm → Bool) : ∀ l : List Tm, cvS s l = cvS s (l.filter f) + cvS s (l.filter fun t => !f t)
  | [] => by simp [cvS]
  | t :: l => by
    have := cv_split s f l
    rw [cvS_cons]
    by_cases h : f t = true
    · rw [List.filter_cons_of_pos h, List.filter_cons_of_neg (by simp [h]), cvS_cons]
      omega
    · rw [List.filter_cons_of_neg h, List.filter_cons_of_pos (by simp [h]), cvS_cons]
      omega
theorem trunc_cv (s : List Int) {l : List Tm} {D : Int} (hl : ∀ t ∈ l, EV t.2) (h : ¬ Ent (truncP l D (0, 0)).2.1 (truncP l D (0, 0)).2.2) : cvS s (truncP l D (0, 0)).1 + (truncP l D (0, 0)).2.1 ≤ cvS s l ∧ cvS s l ≤ cvS s (truncP l D (0, 0)).1 + (truncP l D (0, 0)).2.2 := by
  obtain ⟨_, _, _, _, e⟩ := trunc_some h
  rw [e]
  dsimp only
  have h1 := cv_split s (fun t => decide (degE t.2 ≤ D)) l
  have h2 := foldR_cv s (l.filter fun t => !decide (degE t.2 ≤ D)) (0, 0) 0 ⟨Int.le_refl _, Int.le_refl _⟩ fun t ht => hl t (List.mem_filter.1 ht).1
  unfold keptP missP
  omega
theorem truncM_val (s : List Int) {a : Mo} {d x : Int} (hl : ∀ t ∈ a.1, EV t.2) (hx : a.2.1 ≤ x ∧ x ≤ a.2.2) : Ent (truncM a d).2.1 (truncM a d).2.2 ∨ cvS s (truncM a d).1 + (truncM a d).2.1 ≤ cvS s a.1 + x ∧ cvS s a.1 + x ≤ cvS s (truncM a d).1 + (truncM a d).2.2 := by
  by_cases h : Ent (truncM a d).2.1 (truncM a d).2.2
  · exact .inl h
  · refine .inr ?_
    unfold truncM at *
    obtain ⟨e1, f1⟩ := normM_ent h
    obtain ⟨g1, g2, g3⟩ := addI2_fin f1
    have h2 := trunc_cv s hl g1
    rw [e1, g3]
    dsimp only
    omega
theorem add_zero {r : Int × Int} (hv : VB2 r) : addI2 (0, 0) r = r := by
  unfold VB2 VI at hv
  unfold addI2 addLo addHi
  dsimp only
  by_cases hE : Ent r.1 r.2
  · rw [if_pos (.inr hE), if_pos (.inr hE)]
    obtain ⟨h1, h2⟩ := hE
    exact Prod.ext h1.symm h2.symm
  · rw [if_neg (by rintro (q | q); exact absurd q (by decide); exact hE q), if_neg (by rintro (q | q); exact absurd q (by decide); exact hE q)]
    obtain ⟨n1, n2, _⟩ := hv.resolve_left hE
    unfold mkLo mkHi
    rw [Int.zero_add, Int.zero_add, if_pos ⟨n1, n2⟩, if_pos ⟨n1, n2⟩]
theorem normM_self {l : List Tm} {r : Int × Int} (h : Ent r.1 r.2 → l = []) : normM l r = (l, r) := by
  unfold normM
  split
  · rename_i q
    simp only [entR, Bool.and_eq_true, beq_iff_eq] at q
    rw [h q]
    exact Prod.ext rfl (Prod.ext q.1.symm q.2.symm)
  · rfl
theorem truncM_fix {a : Mo} {d : Int} (hl : VP a.1) (hd : ∀ t ∈ a.1, degE t.2 ≤ d) (hv : VB2 a.2) (hn : Ent a.2.1 a.2.2 → a.1 = []) : truncM a d = a := by
  have e : truncP a.1 d (0, 0) = (a.1, (0, 0)) := by
    have := trunc_is (l := a.1) (D := d) (m := (0, 0)) hl.2.2 (by rw [kept_all hd]; exact hl.2.1) (by rw [miss_all _ hd]; unfold Num; decide) (by rw [miss_all _ hd]; unfold Num; decide)
    rw [kept_all hd, miss_all _ hd] at this
    exact this
  unfold truncM
  rw [e]
  dsimp only
  rw [add_zero hv, normM_self hn]
theorem vp_filter {l : List Tm} (h : VP l) (f : Tm → Bool) : VP (l.filter f) := by
  have p := vp_parts h
  refine ⟨all_of_rise (rise_filter p.1 f) fun t ht => p.2 t (List.mem_filter.1 ht).1, Nat.le_trans (List.length_filter_le _ _) h.2.1, ?_⟩
  rw [List.any_eq_false]
  intro t ht
  have := List.any_eq_false.1 h.2.2 t (List.mem_filter.1 ht).1
  exact this
theorem trunc_vp {l : List Tm} {D : Int} {m : Int × Int} (h : VP l) : VP (truncP l D m).1 := by
  unfold truncP
  split
  · exact vp_nil
  · split
    · exact vp_nil
    · exact vp_filter h _
theorem trunc_deg {l : List Tm} {D : Int} {m : Int × Int} : ∀ t ∈ (truncP l D m).1, degE t.2 ≤ D := by
  unfold truncP
  split
  · simp
  · split
    · simp
    · intro t ht
      simpa using (List.mem_filter.1 ht).2
theorem normM_all {Q : Tm → Prop} {l : List Tm} {p : Int × Int} (h : ∀ t ∈ l, Q t) : ∀ t ∈ (normM l p).1, Q t := by
  unfold normM
  split
  · simp
  · exact h
theorem normM_vp {l : List Tm} {p : Int × Int} (h : VP l) : VP (normM l p).1 := by
  unfold normM
  split
  · exact vp_nil
  · exact h
theorem normM_emp {l : List Tm} {p : Int × Int} (h : Ent (normM l p).2.1 (normM l p).2.2) : (normM l p).1 = [] := by
  unfold normM at *
  split
  · rfl
  · rename_i q
    rw [if_neg q] at h
    exact absurd (by simp [entR, show p.1 = _ from h.1, show p.2 = _ from h.2]) q
theorem normM_vbY {l : List Tm} {p : Int × Int} (h : VB2 p) : VB2 (normM l p).2 := by
  unfold normM
  split
  · exact .inl ⟨rfl, rfl⟩
  · exact h
theorem degP_le {l : List Tm} {d : Int} (h : ∀ t ∈ l, degE t.2 ≤ d) (hd : -1 ≤ d) : degP l ≤ d := by
  have : ∀ (l : List Tm) (a : Int), a ≤ d → (∀ t ∈ l, degE t.2 ≤ d) → l.foldl (fun d t => max d (degE t.2)) a ≤ d := by
    intro l
    induction l with
    | nil => exact fun a h _ => h
    | cons t l ih => exact fun a ha hl => ih _ (Int.max_le.2 ⟨ha, hl t (by simp)⟩) fun u hu => hl u (by simp [hu])
  exact this l (-1) hd h
/-- A truncated model is a model. -/
theorem truncM_good {a : Mo} {d : Int} (hl : VP a.1) (ht : ∀ t ∈ a.1, TV t) (hv : VB2 a.2) : VP (truncM a d).1 ∧ (∀ t ∈ (truncM a d).1, TV t) ∧ VB2 (truncM a d).2 ∧ (∀ t ∈ (truncM a d).1, degE t.2 ≤ d) ∧ (Ent (truncM a d).2.1 (truncM a d).2.2 → (truncM a d).1 = []) := by
  unfold truncM
  exact ⟨normM_vp (trunc_vp hl), normM_tv (truncP_tvY ht), normM_vbY (addI2_vb (trunc_vb (Int.le_refl _)) hv), normM_all trunc_deg, normM_emp⟩
theorem ev_six {l : List Tm} (h : VP l) (ht : ∀ t ∈ l, TV t) : ∀ t ∈ l, TV t ∧ Num t.1 ∧ ∀ x ∈ t.2, x ≤ 6 := fun t m => by
  refine ⟨ht t m, vp_num h t m, ?_⟩
  have hd := ((vp_parts h).2 t m).2
  have he := (ht t m).1
  obtain ⟨a, b, c, d, f, g, e⟩ := six_of he
  rw [e] at hd he ⊢
  have hb := he.2
  simp only [List.mem_cons, List.not_mem_nil, or_false, forall_eq_or_imp, forall_eq] at hb
  simp only [degE, List.sum_cons, List.sum_nil] at hd
  intro x hx
  simp only [List.mem_cons, List.not_mem_nil, or_false] at hx
  omega
end Go.Proofs.YthakeeinhgfbbaaGreat

namespace Go.Proofs.YthakeeinhgfbbaaGreat
open Go.ChangeShapes Go.WideShapes Go.ChangeAt Go.RowKit
set_option linter.unusedVariables false
set_option linter.unusedSimpArgs false

def pt1 (u : Int) : Int × Int := (u * 65536, u * 65536)
theorem pt1_of {v : Int} (h : -1 ≤ v ∧ v ≤ 1) : ptI (v * 65536) = pt1 v := by
  rcases (show v = -1 ∨ v = 0 ∨ v = 1 by omega) with rfl | rfl | rfl <;> decide
theorem pt1_mul {u v : Int} (hu : -1 ≤ u ∧ u ≤ 1) (hv : -1 ≤ v ∧ v ≤ 1) : mulI2 (pt1 u) (pt1 v) = pt1 (u * v) := by
  rcases (show u = -1 ∨ u = 0 ∨ u = 1 by omega) with rfl | rfl | rfl <;> rcases (show v = -1 ∨ v = 0 ∨ v = 1 by omega) with rfl | rfl | rfl <;> decide
theorem pt1_sq {u : Int} (hu : -1 ≤ u ∧ u ≤ 1) : sqI2 (pt1 u) = pt1 (u * u) := by
  rcases (show u = -1 ∨ u = 0 ∨ u = 1 by omega) with rfl | rfl | rfl <;> decide
theorem pow_pt1 {v : Int} (hv : -1 ≤ v ∧ v ≤ 1) : ∀ n : Nat, 1 ≤ n → powX (pt1 v) n = pt1 (v ^ n) := by
  intro n
  induction n using Nat.strongRecOn with
  | ind n ih =>
    intro h1
    by_cases hn : n ≤ 1
    · obtain rfl : n = 1 := by omega
      rw [powX_one, Int.pow_succ, Int.pow_zero, Int.one_mul]
    · by_cases h2 : n % 2 = 0
      · rw [powX_even _ (by omega) h2, ih (n / 2) (by omega) (by omega), pt1_sq (one_pow hv _), ← Int.pow_add, show n / 2 + n / 2 = n by omega]
      · rw [powX_odd _ (by omega) h2, ih (n - 1) (by omega) (by omega), pt1_mul (one_pow hv _) hv, ← Int.pow_succ, show (n - 1).succ = n by omega]
theorem pt_num {x : Int} (h : Num x) : ptI x = (x, x) := by
  unfold ptI mkLo mkHi
  rw [if_pos ⟨h, h⟩, if_pos ⟨h, h⟩]
theorem mul_pt {x v : Int} (hx : Num x) (hv : -1 ≤ v ∧ v ≤ 1) : mulI2 (x, x) (pt1 v) = (x * v, x * v) := by
  have hn : Num (x * v) := by
    unfold Num at *
    rcases (show v = -1 ∨ v = 0 ∨ v = 1 by omega) with rfl | rfl | rfl <;> omega
  have he : ¬ Ent x x := num_ent hx
  have he2 : ¬ Ent (v * 65536) (v * 65536) := by
    unfold Ent
    omega
  have hp : x * (v * 65536) = x * v * 65536 := by rw [Int.mul_assoc]
  have hm : mn4 x x (v * 65536) (v * 65536) = x * v * 65536 := by unfold mn4; rw [hp]; omega
  have hM : mx4 x x (v * 65536) (v * 65536) = x * v * 65536 := by unfold mx4; rw [hp]; omega
  have hd : dn (x * v * 65536) 65536 = x * v := dn_mul_self _ (by decide)
  have hu : up (x * v * 65536) 65536 = x * v := by
    rw [← (dn_eq_up (x * v * 65536) (d := 65536) (by decide)).2 (by omega)]
    exact hd
  unfold mulI2 mulLo mulHi pt1
  dsimp only
  rw [if_neg (by rintro (h | h); exact he h; exact he2 h), if_neg (by rintro (h | h); exact he h; exact he2 h), hm, hM, hd, hu]
  unfold mkLo mkHi
  rw [if_pos ⟨hn, hn⟩, if_pos ⟨hn, hn⟩]
theorem num_one {x v : Int} (hx : Num x) (hv : -1 ≤ v ∧ v ≤ 1) : Num (x * v) := by
  unfold Num at *
  rcases (show v = -1 ∨ v = 0 ∨ v = 1 by omega) with rfl | rfl | rfl <;> omega
theorem var_corner (s : List Int) {j : Nat} (h : j < 6) : varX (cornerB s) j = pt1 (cnr s j) := by
  unfold varX cornerB
  rw [List.getElem?_map, List.getElem?_range h]
  exact pt1_of (cnr_bd s j)
theorem val_corner (s : List Int) {t : Tm} (ht : TV t) (hn : Num t.1) : ∀ j, j ≤ 6 → valI (cornerB s) t j = (t.1 * pmC s t.2 j, t.1 * pmC s t.2 j)
  | 0, _ => by rw [valI_zero, pt_num hn, show pmC s t.2 0 = 1 from rfl, Int.mul_one]
  | j + 1, h => by
    have ih := val_corner s ht hn j (by omega)
    obtain ⟨x, hx⟩ : ∃ x, t.2[j]? = some x := ⟨_, List.getElem?_eq_getElem (by rw [ht.1.1]; omega)⟩
    have hx0 := (ht.1.2 x (List.mem_of_getElem? hx)).1
    have hpm : pmC s t.2 (j + 1) = pmC s t.2 j * cnr s j ^ x.toNat := by
      show pmC s t.2 j * _ = _
      rw [List.getD_eq_getElem?_getD, hx]
      rfl
    obtain ⟨n, rfl⟩ : ∃ n : Nat, x = n := ⟨x.toNat, by omega⟩
    rw [show ((n : Int)).toNat = n from rfl] at hpm
    have hnm := num_one hn (pmC_one s t.2 j)
    by_cases h0 : 0 < n
    · rw [valI_in hx h0, ih, var_corner s (by omega), pow_pt1 (cnr_bd s j) n h0, mul_pt hnm (one_pow (cnr_bd s j) n), hpm, Int.mul_assoc]
    · obtain rfl : n = 0 := by omega
      rw [valI_out hx, ih, hpm, Int.pow_zero, Int.mul_one]
theorem add_pts {x y : Int} : Ent (addI2 (x, x) (y, y)).1 (addI2 (x, x) (y, y)).2 ∨ addI2 (x, x) (y, y) = (x + y, x + y) := by
  by_cases h : Ent (addI2 (x, x) (y, y)).1 (addI2 (x, x) (y, y)).2
  · exact .inl h
  · exact .inr (addI2_fin h).2.2
theorem eval_corner (s : List Int) {l : List Tm} (hl : ∀ t ∈ l, TV t ∧ Num t.1) : Ent (evalP (cornerB s) l).1 (evalP (cornerB s) l).2 ∨ evalP (cornerB s) l = (cvS s l, cvS s l) := by
  have ent_add : ∀ (p q : Int × Int), Ent p.1 p.2 → Ent (addI2 p q).1 (addI2 p q).2 := fun p q h => by
    by_cases k : Ent (addI2 p q).1 (addI2 p q).2
    · exact k
    · exact absurd h (addI2_fin k).1
  have stay : ∀ (l : List Tm) (p : Int × Int), Ent p.1 p.2 → Ent (l.foldl (fun a t => addI2 a (valI (cornerB s) t 6)) p).1 (l.foldl (fun a t => addI2 a (valI (cornerB s) t 6)) p).2 := by
    intro l
    induction l with
    | nil => exact fun p h => h
    | cons t l ih => exact fun p h => ih _ (ent_add _ _ h)
  have go : ∀ (l : List Tm) (x : Int), (∀ t ∈ l, TV t ∧ Num t.1) → Ent (l.foldl (fun a t => addI2 a (valI (cornerB s) t 6)) (x, x)).1 (l.foldl (fun a t => addI2 a (valI (cornerB s) t 6)) (x, x)).2 ∨ l.foldl (fun a t => addI2 a (valI (cornerB s) t 6)) (x, x) = (x + cvS s l, x + cvS s l) := by
    intro l
    induction l with
    | nil => intro x _; exact .inr (by simp [cvS])
    | cons t l ih =>
      intro x hl
      rw [List.foldl_cons, val_corner s (hl t (by simp)).1 (hl t (by simp)).2 6 (Nat.le_refl _)]
      rcases add_pts (x := x) (y := t.1 * pmC s t.2 6) with h | h
      · exact .inl (stay l _ h)
      · rw [h]
        rcases ih (x + t.1 * pmC s t.2 6) (fun u hu => hl u (by simp [hu])) with q | q
        · exact .inl q
        · refine .inr (q.trans ?_)
          rw [cvS_cons, show cvT s t = t.1 * pmC s t.2 6 from rfl, Int.add_assoc]
  have := go l 0 hl
  rw [Int.zero_add] at this
  exact this
/-- Eval at a corner and Range hold a model's values. -/
theorem evalM_in (s : List Int) {a : Mo} {x : Int} (hl : ∀ t ∈ a.1, TV t ∧ Num t.1) (hx : a.2.1 ≤ x ∧ x ≤ a.2.2) : Ent (evalM a (cornerB s)).1 (evalM a (cornerB s)).2 ∨ (evalM a (cornerB s)).1 ≤ cvS s a.1 + x ∧ cvS s a.1 + x ≤ (evalM a (cornerB s)).2 := by
  by_cases h : Ent (evalM a (cornerB s)).1 (evalM a (cornerB s)).2
  · exact .inl h
  · refine .inr ?_
    unfold evalM at *
    obtain ⟨h1, _, h3⟩ := addI2_fin h
    have e := (eval_corner s hl).resolve_left h1
    rw [h3, e]
    dsimp only
    omega
theorem newR_fin {m : Int × Int} (h : ¬ Ent (newR m).1 (newR m).2) : newR m = m := by
  unfold newR mkLo mkHi at *
  by_cases q : Num m.1 ∧ Num m.2
  · rw [if_pos q, if_pos q]
  · rw [if_neg q, if_neg q] at h
    exact absurd ⟨rfl, rfl⟩ h
theorem rangeM_in (s : List Int) {a : Mo} {x : Int} (hl : ∀ t ∈ a.1, EV t.2) (hx : a.2.1 ≤ x ∧ x ≤ a.2.2) : Ent (rangeM a).1 (rangeM a).2 ∨ (rangeM a).1 ≤ cvS s a.1 + x ∧ cvS s a.1 + x ≤ (rangeM a).2 := by
  by_cases h : Ent (rangeM a).1 (rangeM a).2
  · exact .inl h
  · refine .inr ?_
    unfold rangeM rngP at *
    obtain ⟨h1, _, h3⟩ := addI2_fin h
    have e := newR_fin h1
    have f := foldR_cv s a.1 (0, 0) 0 ⟨Int.le_refl _, Int.le_refl _⟩ hl
    rw [h3, e]
    unfold sumR
    dsimp only
    omega
theorem add_ent_r {p q : Int × Int} (h : Ent q.1 q.2) : Ent (addI2 p q).1 (addI2 p q).2 := by
  by_cases k : Ent (addI2 p q).1 (addI2 p q).2
  · exact k
  · exact absurd h (addI2_fin k).2.1
/-- What a truncation leaves is a polynomial, whatever is truncated. -/
theorem trunc_vp2 {l : List Tm} {D : Int} {m : Int × Int} (hr : Rise l) (hz : ∀ t ∈ l, t.1 ≠ 0) (hD : D ≤ 6) : VP (truncP l D m).1 := by
  unfold truncP
  split
  · exact vp_nil
  · rename_i hn
    split
    · exact vp_nil
    · rename_i hc
      refine ⟨all_of_rise (rise_filter hr _) fun t ht => ⟨hz t (List.mem_filter.1 ht).1, ?_⟩, by dsimp only; omega, ?_⟩
      · have := (List.mem_filter.1 ht).2
        simp only [decide_eq_true_eq] at this
        omega
      · rw [List.any_eq_false]
        intro t ht hb
        exact hn (List.any_eq_true.2 ⟨t, (List.mem_filter.1 ht).1, hb⟩)
theorem mulR_vp (l m : List Tm) (D : Int) : VP (mulR l m D).1 := trunc_vp2 (rise_filter (coll_rise _) _) (fun t ht => by simpa using (List.mem_filter.1 ht).2) (by omega)
theorem merge_vp {l m : List Tm} (hl : VP l) (hm : VP m) : VP (truncP (mergeP l m) 6 (0, 0)).1 := by
  have p1 := vp_parts hl
  have p2 := vp_parts hm
  exact trunc_vp2 (merge_rise l m p1.1 p2.1) (merge_nz l m (fun t ht => (p1.2 t ht).1) (fun t ht => (p2.2 t ht).1)) (Int.le_refl _)
def FullM (a : Mo) : Prop := VP a.1 ∧ (∀ t ∈ a.1, TV t) ∧ VB2 a.2 ∧ (Ent a.2.1 a.2.2 → a.1 = [])
theorem fullM_ok {a : Mo} (h : FullM a) : VP a.1 ∧ VI a.2.1 a.2.2 ∧ (a.1 = [] ∨ ¬ Ent a.2.1 a.2.2) := ⟨h.1, h.2.2.1, by
  by_cases q : Ent a.2.1 a.2.2
  · exact .inl (h.2.2.2 q)
  · exact .inr q⟩
theorem addM_full {a b : Mo} (ha : VP a.1) (hb : VP b.1) (ta : ∀ t ∈ a.1, TV t ∧ Num t.1) (tb : ∀ t ∈ b.1, TV t ∧ Num t.1) (va : VB2 a.2) (vb : VB2 b.2) : FullM (addM a b) :=
  ⟨normM_vp (merge_vp ha hb), normM_tv (truncP_tvY (merge_tv ta tb)), normM_vbY (addI2_vb (merge_vb _ _) (addI2_vb va vb)), normM_emp⟩
theorem mulM_full {a b : Mo} (d : Int) (ta : ∀ t ∈ a.1, TV t ∧ Num t.1) (tb : ∀ t ∈ b.1, TV t ∧ Num t.1) (la : a.1.length ≤ 100) (lb : b.1.length ≤ 100) (va : VB2 a.2) (vb : VB2 b.2) : FullM (mulM a b d) :=
  ⟨normM_vp (mulR_vp _ _ _), mulM_tv ta tb la lb, normM_vbY (addI2_vb (addI2_vb (addI2_vb (mulR_vb _ _ _) (mulI2_vb _ _)) (mulI2_vb _ _)) (mulI2_vb _ _)), normM_emp⟩
theorem neg_vp {l : List Tm} (h : VP l) : VP (negT l) := by
  have p := vp_parts h
  refine ⟨all_of_rise ?_ fun t ht => ?_, by rw [neg_len]; exact h.2.1, ?_⟩
  · exact List.pairwise_map.2 p.1
  · obtain ⟨s, hs, rfl⟩ := List.mem_map.1 ht
    have := p.2 s hs
    exact ⟨by dsimp only; omega, this.2⟩
  · rw [List.any_eq_false]
    intro t ht
    obtain ⟨s, hs, rfl⟩ := List.mem_map.1 ht
    have := vp_num h s hs
    unfold Num at this
    have hn : Num (-s.1) := by unfold Num; omega
    simp [noNum, hn]
theorem negM_full {a : Mo} (ha : VP a.1) (ta : ∀ t ∈ a.1, TV t ∧ Num t.1) (va : VB2 a.2) (he : Ent a.2.1 a.2.2 → a.1 = []) : FullM (negM a) :=
  ⟨neg_vp ha, fun t ht => (neg_tn ta t ht).1, neg_vb va, fun q => by
    have : Ent a.2.1 a.2.2 := by
      unfold Ent negM negI2 at *
      dsimp only at q
      omega
    show negT a.1 = []
    rw [he this]
    rfl⟩

theorem truncP_id {l : List Tm} (h : ∀ t ∈ l, Num t.1 ∧ degE t.2 ≤ 6) (hl : l.length ≤ 100) : truncP l 6 (0, 0) = (l, (0, 0)) := by
  have hk : keptP 6 l = l := List.filter_eq_self.2 fun t ht => by simp [(h t ht).2]
  have hm : missP 6 (0, 0) l = (0, 0) := by
    unfold missP
    rw [List.filter_eq_nil_iff.2 fun t ht => by simp [(h t ht).2]]
    rfl
  have hn : l.any noNum = false := by
    rw [List.any_eq_false]
    intro t ht
    simp [noNum, (h t ht).1]
  unfold truncP
  rw [hn, hk, hm, if_neg (by decide), if_neg (by rintro (q | q); omega; exact absurd q (by decide))]
  rfl
def unitE (k : Nat) : List Int := ([0, 0, 0, 0, 0, 0] : List Int).set k 1
def lineT (k : Nat) (r : Int) : List Tm := if r = 0 then [] else [(r, unitE k)]
theorem unit_deg : ∀ k < 6, degE (unitE k) = 1 := by decide
theorem unit_add : ∀ k < 6, addE (unitE k) [0, 0, 0, 0, 0, 0] = unitE k := by decide
theorem unit_cmp : ∀ k < 6, cmpE [0, 0, 0, 0, 0, 0] (unitE k) = -1 := by decide
theorem unit_ev : ∀ k < 6, (unitE k).length = 6 ∧ ∀ x ∈ unitE k, 0 ≤ x ∧ x ≤ 6 := by decide
theorem line_deg {k : Nat} {r : Int} (hk : k < 6) (hr : Num r) : ∀ t ∈ lineT k r, Num t.1 ∧ degE t.2 ≤ 6 := by
  unfold lineT
  split
  · simp
  · intro t ht
    simp only [List.mem_singleton] at ht
    subst ht
    exact ⟨hr, by rw [unit_deg k hk]; decide⟩
theorem const_deg {c : Int} (hr : Num c) : ∀ t ∈ constT c, Num t.1 ∧ degE t.2 ≤ 6 := by
  unfold constT
  split
  · simp
  · intro t ht
    simp only [List.mem_singleton] at ht
    subst ht
    exact ⟨hr, show degE ([0, 0, 0, 0, 0, 0] : List Int) ≤ 6 from by decide⟩
theorem lin_eq {k : Nat} {r : Int} (hk : k < 6) (hr : Num r) : linM k r = (lineT k r, (0, 0)) := by
  have hv : varT k = [(65536, unitE k)] := by
    unfold varT unitE
    rw [if_pos (by omega)]
    rfl
  unfold linM mulR
  rw [hv, show min (6 : Int) 6 = 6 from rfl]
  by_cases h : r = 0
  · subst h
    rw [show constT 0 = [] from rfl, show lineT k 0 = [] from rfl, show mulP [(65536, unitE k)] [] = [] from rfl, show missM (pairsT [(65536, unitE k)] []) = (0, 0) from rfl]
    exact truncP_id (by simp) (by simp)
  · have hd : dn (65536 * r) 65536 = r := by rw [Int.mul_comm]; exact dn_mul_self r (by decide)
    have hu : up (65536 * r) 65536 = r := by
      rw [← (dn_eq_up (65536 * r) (d := 65536) (by decide)).2 (by omega)]
      exact hd
    have hc : constT r = [(r, [0, 0, 0, 0, 0, 0])] := by unfold constT; rw [if_neg h]
    have hl : lineT k r = [(r, unitE k)] := by unfold lineT; rw [if_neg h]
    have hp : pairsT [(65536, unitE k)] [(r, [0, 0, 0, 0, 0, 0])] = [((65536, unitE k), (r, [0, 0, 0, 0, 0, 0]))] := rfl
    have e1 : mulP [(65536, unitE k)] [(r, [0, 0, 0, 0, 0, 0])] = [(r, unitE k)] := by
      unfold mulP
      rw [hp]
      simp [prT, hd, unit_add k hk, collT, insT, h]
    have e2 : missM [((65536, unitE k), (r, [0, 0, 0, 0, 0, 0]))] = (0, 0) := by
      unfold missM
      simp [rndP, hd, hu]
    rw [hc, e1, hp, e2, hl]
    exact truncP_id (fun t ht => by simp only [List.mem_singleton] at ht; subst ht; exact ⟨hr, by rw [unit_deg k hk]; decide⟩) (by simp)
theorem merge_line {k : Nat} {c r : Int} (hk : k < 6) : mergeP (constT c) (lineT k r) = constT c ++ lineT k r := by
  unfold constT lineT
  by_cases h1 : c = 0
  · by_cases h2 : r = 0 <;> simp [mergeP, h1, h2]
  · by_cases h2 : r = 0 <;> simp [mergeP, h1, h2, unit_cmp k hk]
theorem half_num {a b : Int} (ha : Num a) (hb : Num b) (h : a ≤ b) : Num (midI (a, b)) ∧ Num (b - midI (a, b)) ∧ Num (a - midI (a, b)) ∧ midI (a, b) = a + (b - a) / 2 := by
  unfold Num midI at *
  dsimp only
  omega
/-- Var of an interval that is not the entire one. -/
theorem varM_eq {k : Nat} {a b : Int} (hk : k < 6) (ha : Num a) (hb : Num b) (h : a ≤ b) : varM k (a, b) = (constT (midI (a, b)) ++ lineT k (b - midI (a, b)), (0, 0)) := by
  obtain ⟨hm, hr, -, -⟩ := half_num ha hb h
  unfold varM
  dsimp only
  rw [pt_num hr, if_neg (by
    unfold Num at hr
    simp only [entR, Bool.and_eq_true, beq_iff_eq]
    omega), lin_eq hk hr]
  dsimp only
  rw [merge_line hk, truncP_id (fun t ht => by
    rcases List.mem_append.1 ht with q | q
    · exact const_deg hm t q
    · exact line_deg hk hr t q) (by
    rw [List.length_append]
    have h1 : (constT (midI (a, b))).length ≤ 1 := by unfold constT; split <;> simp
    have h2 : (lineT k (b - midI (a, b))).length ≤ 1 := by unfold lineT; split <;> simp
    omega)]
  rfl
theorem varM_ent (i : Int) : varM i (-2147483648, 2147483648) = ([], (-2147483648, 2147483648)) := by
  unfold varM
  rw [if_pos (by decide)]
theorem constM_ent : constM (-2147483648, 2147483648) = ([], (-2147483648, 2147483648)) := by decide
theorem constM_eq {a b : Int} (ha : Num a) (hb : Num b) (h : a ≤ b) : constM (a, b) = (constT (midI (a, b)), (a - midI (a, b), b - midI (a, b))) := by
  obtain ⟨hm, hr, hl, -⟩ := half_num ha hb h
  have e : addI2 (a, b) (-midI (a, b), -midI (a, b)) = (a - midI (a, b), b - midI (a, b)) := by
    unfold addI2 addLo addHi
    dsimp only
    have n1 : ¬ Ent a b := by unfold Ent Num at *; omega
    have n2 : ¬ Ent (-midI (a, b)) (-midI (a, b)) := by unfold Ent; omega
    rw [if_neg (by rintro (q | q); exact n1 q; exact n2 q), if_neg (by rintro (q | q); exact n1 q; exact n2 q)]
    unfold mkLo mkHi
    rw [← Int.sub_eq_add_neg, ← Int.sub_eq_add_neg, if_pos ⟨hl, hr⟩, if_pos ⟨hl, hr⟩]
  unfold constM
  rw [pt_num hm]
  show (_, addI2 (a, b) (-midI (a, b), -midI (a, b))) = _
  rw [e]
theorem cv_const (s : List Int) (c : Int) : cvS s (constT c) = c := by
  unfold constT
  split
  · rename_i h; subst h; rfl
  · simp [cvS, cvT, pmC]
theorem pow1 (x : Int) : x ^ 1 = x := by rw [Int.pow_succ, Int.pow_zero, Int.one_mul]
theorem cv_line (s : List Int) {k : Nat} (hk : k < 6) (r : Int) : cvS s (lineT k r) = r * cnr s k := by
  unfold lineT
  split
  · rename_i h; subst h; simp [cvS]
  · rcases (show k = 0 ∨ k = 1 ∨ k = 2 ∨ k = 3 ∨ k = 4 ∨ k = 5 by omega) with rfl | rfl | rfl | rfl | rfl | rfl <;> simp [cvS, cvT, pmC, unitE, pow1]
theorem cv_app (s : List Int) (l m : List Tm) : cvS s (l ++ m) = cvS s l + cvS s m := by simp [cvS, List.sum_append]
theorem cv_var (s : List Int) {k : Nat} (hk : k < 6) (c r : Int) : cvS s (constT c ++ lineT k r) = c + r * cnr s k := by rw [cv_app, cv_const, cv_line s hk]
theorem const_six {c : Int} (h : Num c) : ∀ t ∈ constT c, TV t ∧ Num t.1 ∧ ∀ x ∈ t.2, x ≤ 6 := by
  unfold constT
  split
  · simp
  · intro t ht
    simp only [List.mem_singleton] at ht
    subst ht
    unfold Num at h
    exact ⟨⟨⟨rfl, show ∀ x ∈ ([0, 0, 0, 0, 0, 0] : List Int), 0 ≤ x ∧ x ≤ 255 from by decide⟩, by dsimp only; omega⟩, h, show ∀ x ∈ ([0, 0, 0, 0, 0, 0] : List Int), x ≤ 6 from by decide⟩
theorem line_six {k : Nat} {r : Int} (hk : k < 6) (h : Num r) : ∀ t ∈ lineT k r, TV t ∧ Num t.1 ∧ ∀ x ∈ t.2, x ≤ 6 := by
  unfold lineT
  split
  · simp
  · intro t ht
    simp only [List.mem_singleton] at ht
    subst ht
    have e := unit_ev k hk
    unfold Num at h
    exact ⟨⟨⟨e.1, fun x hx => ⟨(e.2 x hx).1, by have := (e.2 x hx).2; omega⟩⟩, by dsimp only; omega⟩, h, fun x hx => (e.2 x hx).2⟩
theorem var_six {k : Nat} {c r : Int} (hk : k < 6) (hc : Num c) (h : Num r) : ∀ t ∈ constT c ++ lineT k r, TV t ∧ Num t.1 ∧ ∀ x ∈ t.2, x ≤ 6 := fun t ht => by
  rcases List.mem_append.1 ht with q | q
  · exact const_six hc t q
  · exact line_six hk h t q
theorem var_len (k : Nat) (c r : Int) : (constT c ++ lineT k r).length ≤ 100 := by
  rw [List.length_append]
  have h1 : (constT c).length ≤ 1 := by unfold constT; split <;> simp
  have h2 : (lineT k r).length ≤ 1 := by unfold lineT; split <;> simp
  omega
/-- A block of eight-bit numbers. -/
def I8C (W : World) (b : Nat) (l : List Int) : Prop := W.heap[b]? = some (.cells (l.map fun x => Value.int .i8 x).toArray 58 (0, 0))
theorem I8C.lt {W : World} {b : Nat} {l : List Int} (h : I8C W b l) : b < W.heap.size := (Array.getElem?_eq_some_iff.1 h).1
theorem I8C.grow {W W' : World} {b : Nat} {l : List Int} (h : I8C W b l) (hB : Below W.heap.size W W') : I8C W' b l := (hB.block b h.lt).trans h
theorem I8C.frozen {W : World} {b : Nat} {l : List Int} (h : I8C W b l) (o : Nat) : W.frozen? ⟨b, o, none⟩ = false := by simp [World.frozen?, show W.heap[b]? = _ from h]
theorem I8C.cell {W : World} {b k : Nat} {l : List Int} {x : Int} (h : I8C W b l) (hx : l[k]? = some x) : W.cell? ⟨b, k, none⟩ = some (.int .i8 x) := by
  simp [World.cell?, show W.heap[b]? = _ from h, hx]
theorem I8C.set {W : World} {b k : Nat} {l : List Int} (h : I8C W b l) (x : Int) : I8C (W.setCell ⟨b, k, none⟩ (.int .i8 x)) b (l.set k x) := by
  have := cellsT_set (o := k) (u := .int .i8 x) h
  unfold I8C
  rw [this, List.map_set]
  simp
theorem I8C.s8 {W : World} {b : Nat} {l : List Int} (h : I8C W b l) (hl : l.length = 6) : S8 W (.slice (some ⟨b, 0, none⟩) 6 6) l := by
  refine ⟨by rw [hl]; simp [maxLen], some ⟨b, 0, none⟩, 6, by rw [hl], fun k x hk => ⟨b, 0, rfl, h.lt, ?_⟩⟩
  rw [Nat.zero_add]
  exact h.cell hk
def unitS (k : Nat) (x : Int) : List Int := ([0, 0, 0, 0, 0, 0] : List Int).set k x
theorem unitS_cnr {k : Nat} (hk : k < 6) : cnr [0, 0, 0, 0, 0, 0] k = 0 ∧ cnr (unitS k 1) k = 1 ∧ cnr (unitS k (-1)) k = -1 := by
  rcases (show k = 0 ∨ k = 1 ∨ k = 2 ∨ k = 3 ∨ k = 4 ∨ k = 5 by omega) with rfl | rfl | rfl | rfl | rfl | rfl <;> decide
theorem unitS_bd {k : Nat} {x : Int} (hx : -128 ≤ x ∧ x ≤ 127) : ∀ y ∈ unitS k x, -128 ≤ y ∧ y ≤ 127 := fun y hy => by
  rcases List.mem_or_eq_of_mem_set hy with q | rfl
  · simp at q; omega
  · exact hx
theorem unitS_len (k : Nat) (x : Int) : (unitS k x).length = 6 := by simp [unitS]

theorem cvT_add (s : List Int) (x y : Int) (e : List Int) : cvT s (x + y, e) = cvT s (x, e) + cvT s (y, e) := Int.add_mul _ _ _
theorem merge_cv (p : List Int) (l m : List Tm) : cvS p (mergeP l m) = cvS p l + cvS p m := by
  induction l, m using mergeP.induct with
  | case1 m => rw [mergeP]; simp [cvS]
  | case2 x l => rw [mergeP]; simp [cvS]
  | case3 x l y m h0 ih => rw [mergeP, if_pos h0, cvS_cons, ih, cvS_cons p x l]; omega
  | case4 x l y m h0 h3 ih => rw [mergeP, if_neg h0, if_pos h3, cvS_cons, ih, cvS_cons p y]; omega
  | case5 x l y m h0 h3 h4 ih =>
    rw [mergeP, if_neg h0, if_neg h3, if_pos h4, ih, cvS_cons, cvS_cons]
    have e := cmp_mid h0 h3
    have h := cvT_add p x.1 y.1 x.2
    rw [h4] at h
    have z : cvT p (0, x.2) = 0 := by simp [cvT]
    rw [z] at h
    have e2 : cvT p (y.1, x.2) = cvT p y := by rw [e]
    have e1 : cvT p (x.1, x.2) = cvT p x := rfl
    omega
  | case6 x l y m h0 h3 h4 ih =>
    rw [mergeP, if_neg h0, if_neg h3, if_neg h4, cvS_cons, ih, cvS_cons, cvS_cons]
    have e := cmp_mid h0 h3
    have h := cvT_add p x.1 y.1 x.2
    have e2 : cvT p (y.1, x.2) = cvT p y := by rw [e]
    have e1 : cvT p (x.1, x.2) = cvT p x := rfl
    omega
theorem ins_cv (s : List Int) (x : Tm) : ∀ l : List Tm, cvS s (insT x l) = cvT s x + cvS s l
  | [] => by simp [insT, cvS]
  | q :: r => by
    have ih := ins_cv s x r
    unfold insT
    split
    · rw [cvS_cons, cvS_cons, ih]; omega
    · split
      · rename_i h0
        have e := cmp_zero h0
        rw [cvS_cons, cvS_cons]
        have h := cvT_add s x.1 q.1 x.2
        have e2 : cvT s (q.1, x.2) = cvT s q := by rw [← e]
        have e1 : cvT s (x.1, x.2) = cvT s x := rfl
        omega
      · rw [cvS_cons]
theorem coll_cv (s : List Int) (S : List Tm) : cvS s (collT S) = cvS s S := by
  have : ∀ (S l : List Tm), cvS s (S.foldl (fun l x => insT x l) l) = cvS s l + cvS s S := by
    intro S
    induction S with
    | nil => intro l; simp [cvS]
    | cons x S ih => intro l; rw [List.foldl_cons, ih, ins_cv, cvS_cons]; omega
  have h := this S []
  rw [show cvS s [] = 0 from rfl, Int.zero_add] at h
  exact h
theorem nz_cv (s : List Int) : ∀ l : List Tm, cvS s (l.filter fun t => t.1 != 0) = cvS s l
  | [] => rfl
  | t :: l => by
    have ih := nz_cv s l
    by_cases h : t.1 = 0
    · rw [List.filter_cons_of_neg (by simp [h]), ih, cvS_cons]
      have : cvT s t = 0 := by unfold cvT; rw [h, Int.zero_mul]
      omega
    · rw [List.filter_cons_of_pos (by simp [h]), cvS_cons, cvS_cons, ih]
theorem getD_addE {d e : List Int} {j : Nat} (hd : d.length = 6) (he : e.length = 6) (hj : j < 6) : (addE d e).getD j 0 = (d.getD j 0 + e.getD j 0) % 256 := by
  unfold addE
  simp only [List.getD_eq_getElem?_getD, List.getElem?_map, List.getElem?_zip_eq_some, List.zip]
  rw [List.getElem?_zipWith]
  rw [List.getElem?_eq_getElem (by omega), List.getElem?_eq_getElem (by omega)]
  rfl
theorem pm_add (s : List Int) {d e : List Int} (hd : EV d ∧ ∀ x ∈ d, x ≤ 6) (he : EV e ∧ ∀ x ∈ e, x ≤ 6) : ∀ j, j ≤ 6 → pmC s (addE d e) j = pmC s d j * pmC s e j
  | 0, _ => rfl
  | j + 1, h => by
    have ih := pm_add s hd he j (by omega)
    have gd : ∀ {l : List Int}, EV l ∧ (∀ x ∈ l, x ≤ 6) → 0 ≤ l.getD j 0 ∧ l.getD j 0 ≤ 6 := by
      intro l hl
      rw [List.getD_eq_getElem?_getD, List.getElem?_eq_getElem (by rw [hl.1.1]; omega)]
      exact ⟨(hl.1.2 _ (List.getElem_mem _)).1, hl.2 _ (List.getElem_mem _)⟩
    have a := gd hd
    have b := gd he
    show pmC s (addE d e) j * cnr s j ^ ((addE d e).getD j 0).toNat = pmC s d j * cnr s j ^ (d.getD j 0).toNat * (pmC s e j * cnr s j ^ (e.getD j 0).toNat)
    rw [ih, getD_addE hd.1.1 he.1.1 (by omega), show ((d.getD j 0 + e.getD j 0) % 256).toNat = (d.getD j 0).toNat + (e.getD j 0).toNat by omega, Int.pow_add]
    rw [Int.mul_assoc, Int.mul_assoc, Int.mul_left_comm (pmC s e j)]
def pS (s : List Int) (Q : List (Tm × Tm)) : Int := (Q.map fun p => cvT s p.1 * cvT s p.2).sum
theorem pS_cons (s : List Int) (p : Tm × Tm) (Q : List (Tm × Tm)) : pS s (p :: Q) = cvT s p.1 * cvT s p.2 + pS s Q := by simp [pS]
theorem pS_app (s : List Int) (P Q : List (Tm × Tm)) : pS s (P ++ Q) = pS s P + pS s Q := by simp [pS, List.sum_append]
theorem pS_row (s : List Int) (t : Tm) : ∀ m : List Tm, pS s (m.map fun u => (t, u)) = cvT s t * cvS s m
  | [] => by simp [pS, cvS]
  | u :: m => by rw [List.map_cons, pS_cons, pS_row s t m, cvS_cons, Int.mul_add]
theorem pairs_cv (s : List Int) (m : List Tm) : ∀ l : List Tm, pS s (pairsT l m) = cvS s l * cvS s m
  | [] => by simp [pairsT, pS, cvS]
  | t :: l => by
    have ih := pairs_cv s m l
    rw [show pairsT (t :: l) m = (m.map fun u => (t, u)) ++ pairsT l m from rfl, pS_app, pS_row, ih, cvS_cons, Int.add_mul]
theorem dn_bd (K : Int) : dn K 65536 * 65536 ≤ K ∧ K < dn K 65536 * 65536 + 65536 ∧ (dn K 65536 = up K 65536 → dn K 65536 * 65536 = K) := by
  rw [dn_eq_up K (d := 65536) (by decide), dn_pos K (by decide)]
  omega
theorem addE_ev {d e : List Int} (hd : EV d) (he : EV e) : EV (addE d e) := by
  refine ⟨by simp [addE, hd.1, he.1], fun x hx => ?_⟩
  obtain ⟨z, _, rfl⟩ := List.mem_map.1 hx
  omega
theorem pair_cv (s : List Int) (p : Tm × Tm) (h1 : EV p.1.2 ∧ ∀ x ∈ p.1.2, x ≤ 6) (h2 : EV p.2.2 ∧ ∀ x ∈ p.2.2, x ≤ 6) : 65536 * (cvT s (prT p) + (rndP p).1) ≤ cvT s p.1 * cvT s p.2 ∧ cvT s p.1 * cvT s p.2 ≤ 65536 * (cvT s (prT p) + (rndP p).2) := by
  have hu := pm_add s h1 h2 6 (Nat.le_refl _)
  have e : cvT s p.1 * cvT s p.2 = p.1.1 * p.2.1 * pmC s (addE p.1.2 p.2.2) 6 := by
    unfold cvT
    rw [hu, Int.mul_assoc, Int.mul_assoc, Int.mul_left_comm (pmC s p.1.2 6)]
  have f : cvT s (prT p) = dn (p.1.1 * p.2.1) 65536 * pmC s (addE p.1.2 p.2.2) 6 := rfl
  have g := dn_bd (p.1.1 * p.2.1)
  have ev := addE_ev h1.1 h2.1
  have hv := pmC_one s (addE p.1.2 p.2.2) 6
  have hev := pmC_even s ev
  rw [e, f]
  unfold rndP
  obtain ⟨n, hn⟩ : ∃ n, dn (p.1.1 * p.2.1) 65536 = n := ⟨_, rfl⟩
  obtain ⟨K, hK⟩ : ∃ K, p.1.1 * p.2.1 = K := ⟨_, rfl⟩
  obtain ⟨U, hU⟩ : ∃ U, up (p.1.1 * p.2.1) 65536 = U := ⟨_, rfl⟩
  rw [hn, hU, hK] at g
  rw [hn, hU, hK]
  by_cases q : n = U
  · rw [if_pos q]
    have := g.2.2 q
    rcases (show pmC s (addE p.1.2 p.2.2) 6 = -1 ∨ pmC s (addE p.1.2 p.2.2) 6 = 0 ∨ pmC s (addE p.1.2 p.2.2) 6 = 1 by omega) with h | h | h <;> rw [h] <;> dsimp only <;> omega
  · rw [if_neg q]
    unfold rndE
    by_cases ee : evenE (addE p.1.2 p.2.2) = true
    · rw [if_pos ee]
      have h01 := hev ee 6
      rcases (show pmC s (addE p.1.2 p.2.2) 6 = 0 ∨ pmC s (addE p.1.2 p.2.2) 6 = 1 by omega) with h | h <;> rw [h] <;> dsimp only <;> omega
    · rw [if_neg ee]
      rcases (show pmC s (addE p.1.2 p.2.2) 6 = -1 ∨ pmC s (addE p.1.2 p.2.2) 6 = 0 ∨ pmC s (addE p.1.2 p.2.2) 6 = 1 by omega) with h | h | h <;> rw [h] <;> dsimp only <;> omega
theorem miss_cv (s : List Int) : ∀ (Q : List (Tm × Tm)) (a : Int × Int) (z : Int), (∀ p ∈ Q, (EV p.1.2 ∧ ∀ x ∈ p.1.2, x ≤ 6) ∧ EV p.2.2 ∧ ∀ x ∈ p.2.2, x ≤ 6) → 65536 * a.1 ≤ z ∧ z ≤ 65536 * a.2 → 65536 * (Q.foldl (fun a p => (a.1 + (rndP p).1, a.2 + (rndP p).2)) a).1 ≤ z + pS s Q - 65536 * cvS s (Q.map prT) ∧ z + pS s Q - 65536 * cvS s (Q.map prT) ≤ 65536 * (Q.foldl (fun a p => (a.1 + (rndP p).1, a.2 + (rndP p).2)) a).2
  | [], a, z, _, h => by simpa [pS, cvS] using h
  | p :: Q, a, z, hQ, h => by
    have hp := hQ p (by simp)
    have k := pair_cv s p hp.1 hp.2
    have ih := miss_cv s Q (a.1 + (rndP p).1, a.2 + (rndP p).2) (z + cvT s p.1 * cvT s p.2 - 65536 * cvT s (prT p)) (fun q hq => hQ q (by simp [hq])) (by dsimp only; omega)
    rw [List.foldl_cons, List.map_cons, pS_cons, cvS_cons]
    omega
def Six (l : List Tm) : Prop := ∀ t ∈ l, TV t ∧ Num t.1 ∧ ∀ x ∈ t.2, x ≤ 6
theorem mulR_in (s : List Int) {l m : List Tm} {D : Int} (hl : Six l) (hm : Six m) (h1 : l.length ≤ 100) (h2 : m.length ≤ 100) (h : ¬ Ent (mulR l m D).2.1 (mulR l m D).2.2) : (cvS s (mulR l m D).1 + (mulR l m D).2.1) * 65536 ≤ cvS s l * cvS s m ∧ cvS s l * cvS s m ≤ (cvS s (mulR l m D).1 + (mulR l m D).2.2) * 65536 := by
  have hev : ∀ t ∈ mulP l m, EV t.2 := fun t ht => (mulP_tv (fun t ht => ⟨(hl t ht).1, (hl t ht).2.1⟩) (fun t ht => ⟨(hm t ht).1, (hm t ht).2.1⟩) (Nat.le_trans (Nat.mul_le_mul h1 h2) (by decide)) t ht).1
  have hpq : ∀ p ∈ pairsT l m, (EV p.1.2 ∧ ∀ x ∈ p.1.2, x ≤ 6) ∧ EV p.2.2 ∧ ∀ x ∈ p.2.2, x ≤ 6 := fun p hp => by
    obtain ⟨t, ht, hp⟩ := List.mem_flatMap.1 hp
    obtain ⟨u, hu, rfl⟩ := List.mem_map.1 hp
    exact ⟨⟨(hl t ht).1.1, (hl t ht).2.2⟩, (hm u hu).1.1, (hm u hu).2.2⟩
  have hms := miss_cv s (pairsT l m) (0, 0) 0 hpq ⟨Int.le_refl _, Int.le_refl _⟩
  have hsg := missM_sign (pairsT l m)
  have hmp : cvS s (mulP l m) = cvS s ((pairsT l m).map prT) := by
    unfold mulP
    rw [nz_cv, coll_cv]
  rw [pairs_cv] at hms
  unfold mulR at h ⊢
  obtain ⟨_, _, _, _, e⟩ := trunc_some h
  rw [e]
  dsimp only
  have k1 := cv_split s (fun t => decide (degE t.2 ≤ min D 6)) (mulP l m)
  have k2 := foldR_cv s ((mulP l m).filter fun t => !decide (degE t.2 ≤ min D 6)) (missM (pairsT l m)) (missM (pairsT l m)).1 ⟨Int.le_refl _, by omega⟩ fun t ht => hev t (List.mem_filter.1 ht).1
  have k3 := foldR_cv s ((mulP l m).filter fun t => !decide (degE t.2 ≤ min D 6)) (missM (pairsT l m)) (missM (pairsT l m)).2 ⟨by omega, Int.le_refl _⟩ fun t ht => hev t (List.mem_filter.1 ht).1
  have hms' : 65536 * (missM (pairsT l m)).1 ≤ 0 + cvS s l * cvS s m - 65536 * cvS s ((pairsT l m).map prT) ∧ 0 + cvS s l * cvS s m - 65536 * cvS s ((pairsT l m).map prT) ≤ 65536 * (missM (pairsT l m)).2 := hms
  unfold keptP missP
  omega
theorem prod_in6 {x y i j k l : Int} (h1 : i ≤ x) (h2 : x ≤ j) (h3 : k ≤ y) (h4 : y ≤ l) : mn4 i j k l ≤ x * y ∧ x * y ≤ mx4 i j k l := by
  obtain ⟨e1, e2, e3, e4, -, -, -, -⟩ := edges (a := i) (b := j) (c := k) (d := y) (by omega) h3
  obtain ⟨f1, f2, f3, f4, -, -, -, -⟩ := edges (a := i) (b := j) (c := y) (d := l) (by omega) h4
  have p : 0 ≤ y → i * y ≤ x * y ∧ x * y ≤ j * y := fun hy => ⟨Int.mul_le_mul_of_nonneg_right h1 hy, Int.mul_le_mul_of_nonneg_right h2 hy⟩
  have q : y ≤ 0 → x * y ≤ i * y ∧ j * y ≤ x * y := fun hy => ⟨Int.mul_le_mul_of_nonpos_right h1 hy, Int.mul_le_mul_of_nonpos_right h2 hy⟩
  unfold mn4 mx4
  rcases Int.le_total 0 y with hy | hy
  · have := p hy
    rcases Int.le_total 0 i with hi | hi
    · have := e1 hi; have := f1 hi
      rcases Int.le_total 0 j with hj | hj
      · have := e3 hj; have := f3 hj; omega
      · have := e4 hj; have := f4 hj; omega
    · have := e2 hi; have := f2 hi
      rcases Int.le_total 0 j with hj | hj
      · have := e3 hj; have := f3 hj; omega
      · have := e4 hj; have := f4 hj; omega
  · have := q hy
    rcases Int.le_total 0 i with hi | hi
    · have := e1 hi; have := f1 hi
      rcases Int.le_total 0 j with hj | hj
      · have := e3 hj; have := f3 hj; omega
      · have := e4 hj; have := f4 hj; omega
    · have := e2 hi; have := f2 hi
      rcases Int.le_total 0 j with hj | hj
      · have := e3 hj; have := f3 hj; omega
      · have := e4 hj; have := f4 hj; omega
theorem mulI2_in {p q : Int × Int} {x y : Int} (hx : p.1 ≤ x ∧ x ≤ p.2) (hy : q.1 ≤ y ∧ y ≤ q.2) (h : ¬ Ent (mulI2 p q).1 (mulI2 p q).2) : (mulI2 p q).1 * 65536 ≤ x * y ∧ x * y ≤ (mulI2 p q).2 * 65536 := by
  have k := prod_in6 hx.1 hx.2 hy.1 hy.2
  have d1 := dn_bd (mn4 p.1 p.2 q.1 q.2)
  have d2 := dn_bd (-mx4 p.1 p.2 q.1 q.2)
  unfold mulI2 mulLo mulHi at h ⊢
  dsimp only at h ⊢
  by_cases hc : Ent p.1 p.2 ∨ Ent q.1 q.2
  · rw [if_pos hc, if_pos hc] at h
    exact absurd ⟨rfl, rfl⟩ h
  · rw [if_neg hc, if_neg hc] at h ⊢
    unfold mkLo mkHi at h ⊢
    by_cases hn : Num (dn (mn4 p.1 p.2 q.1 q.2) 65536) ∧ Num (up (mx4 p.1 p.2 q.1 q.2) 65536)
    · rw [if_pos hn, if_pos hn]
      have hu : up (mx4 p.1 p.2 q.1 q.2) 65536 = -dn (-mx4 p.1 p.2 q.1 q.2) 65536 := rfl
      rw [hu]
      omega
    · rw [if_neg hn, if_neg hn] at h
      exact absurd ⟨rfl, rfl⟩ h
theorem addM_in (s : List Int) {a b : Mo} {x y : Int} (ha : ∀ t ∈ a.1, TV t ∧ Num t.1) (hb : ∀ t ∈ b.1, TV t ∧ Num t.1) (hx : a.2.1 ≤ x ∧ x ≤ a.2.2) (hy : b.2.1 ≤ y ∧ y ≤ b.2.2) : Ent (addM a b).2.1 (addM a b).2.2 ∨ cvS s (addM a b).1 + (addM a b).2.1 ≤ (cvS s a.1 + x) + (cvS s b.1 + y) ∧ (cvS s a.1 + x) + (cvS s b.1 + y) ≤ cvS s (addM a b).1 + (addM a b).2.2 := by
  by_cases h : Ent (addM a b).2.1 (addM a b).2.2
  · exact .inl h
  · refine .inr ?_
    unfold addM at *
    obtain ⟨e1, f1⟩ := normM_ent h
    obtain ⟨g1, g2, g3⟩ := addI2_fin f1
    obtain ⟨i1, i2, i3⟩ := addI2_fin g2
    have h2 := trunc_cv s (fun t ht => (merge_tv ha hb t ht).1) g1
    rw [merge_cv] at h2
    rw [e1, g3, i3]
    dsimp only
    omega
theorem rng_in (s : List Int) {l : List Tm} (hl : ∀ t ∈ l, EV t.2) (h : ¬ Ent (rngP l).1 (rngP l).2) : (rngP l).1 ≤ cvS s l ∧ cvS s l ≤ (rngP l).2 := by
  unfold rngP at *
  rw [newR_fin h]
  have f := foldR_cv s l (0, 0) 0 ⟨Int.le_refl _, Int.le_refl _⟩ hl
  unfold sumR
  omega
theorem mulI2_fin {p q : Int × Int} (h : ¬ Ent (mulI2 p q).1 (mulI2 p q).2) : ¬ Ent p.1 p.2 ∧ ¬ Ent q.1 q.2 := by
  unfold mulI2 mulLo mulHi at h
  dsimp only at h
  by_cases hc : Ent p.1 p.2 ∨ Ent q.1 q.2
  · rw [if_pos hc, if_pos hc] at h
    exact absurd ⟨rfl, rfl⟩ h
  · exact ⟨fun e => hc (.inl e), fun e => hc (.inr e)⟩
theorem mulM_in (s : List Int) {a b : Mo} {x y : Int} (d : Int) (ha : Six a.1) (hb : Six b.1) (h1 : a.1.length ≤ 100) (h2 : b.1.length ≤ 100) (hx : a.2.1 ≤ x ∧ x ≤ a.2.2) (hy : b.2.1 ≤ y ∧ y ≤ b.2.2) : Ent (mulM a b d).2.1 (mulM a b d).2.2 ∨ (cvS s (mulM a b d).1 + (mulM a b d).2.1) * 65536 ≤ (cvS s a.1 + x) * (cvS s b.1 + y) ∧ (cvS s a.1 + x) * (cvS s b.1 + y) ≤ (cvS s (mulM a b d).1 + (mulM a b d).2.2) * 65536 := by
  by_cases h : Ent (mulM a b d).2.1 (mulM a b d).2.2
  · exact .inl h
  · refine .inr ?_
    unfold mulM at *
    obtain ⟨e1, f1⟩ := normM_ent h
    obtain ⟨g1, g2, g3⟩ := addI2_fin f1
    obtain ⟨i1, i2, i3⟩ := addI2_fin g1
    obtain ⟨j1, j2, j3⟩ := addI2_fin i1
    have r1 := rng_in s (fun t ht => (ha t ht).1.1) (mulI2_fin j2).1
    have r2 := rng_in s (fun t ht => (hb t ht).1.1) (mulI2_fin i2).1
    have k1 := mulR_in s ha hb h1 h2 j1
    have k2 := mulI2_in r1 hy j2
    have k3 := mulI2_in r2 hx i2
    have k4 := mulI2_in hx hy g2
    rw [e1, g3, i3, j3]
    dsimp only
    have e : (cvS s a.1 + x) * (cvS s b.1 + y) = cvS s a.1 * cvS s b.1 + cvS s a.1 * y + cvS s b.1 * x + x * y := by
      rw [Int.add_mul, Int.mul_add, Int.mul_add, Int.mul_comm x (cvS s b.1)]
      omega
    rw [e]
    omega
end Go.Proofs.YthakeeinhgfbbaaGreat
