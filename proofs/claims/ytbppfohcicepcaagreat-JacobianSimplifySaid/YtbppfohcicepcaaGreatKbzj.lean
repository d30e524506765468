/-
  Jq
-/
import Derived.Test.YtbppfohcicepcaaGreatKbn
import Derived.Test.YtbppfohcicepcaaGreatKbo
import Derived.Test.YtbppfohcicepcaaGreatKbp
import Derived.Test.YtbppfohcicepcaaGreatKbz
import Derived.Test.YtbppfohcicepcaaGreatKbzg
import Derived.Test.YtbppfohcicepcaaGreatKbzh
import Derived.Test.YtbppfohcicepcaaGreatKbzi
namespace Go.Proofs.YtbppfohcicepcaaGreat
open Go.ChangeShapes Go.WideShapes Go.ChangeAt Go.RowKit
set_option linter.unusedVariables false
set_option linter.unusedSimpArgs false
set_option maxRecDepth 100000
attribute [local irreducible] Calls
theorem ev_cases {N : Int} {X : List (Int × Int)} {t : Int × Int} (hN : (X.length : Int) = N) {T : Ex} (h : EV N T) :
    (kids T = [] ∧ (((rtN T).op = 1 ∧ evT X t T = ((rtN T).lo, (rtN T).hi)) ∨ ((rtN T).op = 2 ∧ ∃ m : Nat, (rtN T).n = m ∧ X[m]? = some (evT X t T)) ∨ ((rtN T).op = 3 ∧ evT X t T = t)))
    ∨ (∃ a, kids T = [a] ∧ ((rtN T).op = 4 ∨ (rtN T).op = 5 ∨ (rtN T).op = 6) ∧ evT X t T = opI (rtN T).op (evT X t a) (evT X t a))
    ∨ (∃ a b, kids T = [a, b] ∧ ((rtN T).op = 7 ∨ (rtN T).op = 8 ∨ (rtN T).op = 9 ∨ (rtN T).op = 10) ∧ evT X t T = opI (rtN T).op (evT X t a) (evT X t b)) := by
  obtain ⟨h1, h10, har⟩ := kids_ar h
  cases T with
  | e0 x =>
    refine .inl ⟨rfl, ?_⟩
    have h2 := h.2
    replace har : (if x.op ≤ 3 then 0 else if x.op ≤ 6 then 1 else 2 : Int) = 0 := har
    replace h1 : 1 ≤ x.op := h1
    show (x.op = 1 ∧ _) ∨ (x.op = 2 ∧ _) ∨ (x.op = 3 ∧ _)
    have h3 : x.op ≤ 3 := by
      by_cases q : x.op ≤ 3
      · exact q
      · rw [if_neg q] at har
        split at har <;> omega
    by_cases q1 : x.op = 1
    · exact .inl ⟨q1, by rw [evT, if_pos q1]; rfl⟩
    · by_cases q2 : x.op = 2
      · refine .inr (.inl ⟨q2, ?_⟩)
        unfold vnB at h2
        rw [if_neg q1, if_pos q2] at h2
        simp only [Bool.and_eq_true, decide_eq_true_eq] at h2
        obtain ⟨_, h4, h5⟩ := h2
        refine ⟨x.n.toNat, (show x.n = (x.n.toNat : Int) by omega), ?_⟩
        have hl : x.n.toNat < X.length := by omega
        rw [evT, if_neg q1, if_pos q2, List.getD_eq_getElem?_getD, List.getElem?_eq_getElem hl]
        rfl
      · exact .inr (.inr ⟨by omega, by rw [evT, if_neg q1, if_neg q2]⟩)
  | e1 x a =>
    refine .inr (.inl ⟨a, rfl, ?_, evT_one ..⟩)
    replace har : (if x.op ≤ 3 then 0 else if x.op ≤ 6 then 1 else 2 : Int) = 1 := har
    show x.op = 4 ∨ x.op = 5 ∨ x.op = 6
    split at har
    · omega
    · split at har <;> omega
  | e2 x a b =>
    refine .inr (.inr ⟨a, b, rfl, ?_, evT_two ..⟩)
    replace har : (if x.op ≤ 3 then 0 else if x.op ≤ 6 then 1 else 2 : Int) = 2 := har
    replace h10 : x.op ≤ 10 := h10
    show x.op = 7 ∨ x.op = 8 ∨ x.op = 9 ∨ x.op = 10
    split at har
    · omega
    · split at har <;> omega
theorem op_rt (a b : Int) (q : Int × Int) : opI 6 (a, b) q = rtI (a, b) := opI_six _ _
theorem r7root (a b : Int) (w : World) (hv : VI a b) (h0 : ¬ a < 0) : Calls Tryz.prog 62 #[.agg #[.int .i64 a, .int .i64 b]] w fun e w' => e = .returned (.tuple #[.agg #[.int .i64 (rtI (a, b)).1, .int .i64 (rtI (a, b)).2], .bool true]) ∧ Below w.heap.size w w' := by
  obtain ⟨h1, h2, h3, h4, h5⟩ := hv.bd
  have := r2sqrt_pos a b w (fun q => h0 (by have := q.1; omega)) h5 (by omega) h4
  have e : rtI (a, b) = (mkLo (rt1 a) (rt2 b), mkHi (rt1 a) (rt2 b)) := by
    unfold rtI
    dsimp only
    rw [if_neg h0]
  rw [e]
  dsimp only
  generalize mkLo (rt1 a) (rt2 b) = x at *
  generalize mkHi (rt1 a) (rt2 b) = y at *
  exact this
set_option maxRecDepth 1000000 in
set_option maxHeartbeats 32000000 in
theorem reval_step (N : Int) (X : List (Int × Int)) (xv : Value) (t1 t2 : Int) (hXN : (X.length : Int) = N) (hvx : ∀ p ∈ X, VI p.1 p.2) (hvt : VI t1 t2) (T : Ex) (hT : EV N T)
    (IH : ∀ a ∈ kids T, ∀ (v : Value) (w : World), NxC w v (pre a) → Vx w xv X → ∀ r1 r2 : Int, evT X (t1, t2) a = (r1, r2) → Calls Tryz.prog 28 #[v, xv, .agg #[.int .i64 t1, .int .i64 t2]] w fun e w' => e = .returned (.agg #[.int .i64 r1, .int .i64 r2]) ∧ Below w.heap.size w w') :
    ∀ (v : Value) (w : World), NxC w v (pre T) → Vx w xv X → ∀ r1 r2 : Int, evT X (t1, t2) T = (r1, r2) → Calls Tryz.prog 28 #[v, xv, .agg #[.int .i64 t1, .int .i64 t2]] w fun e w' => e = .returned (.agg #[.int .i64 r1, .int .i64 r2]) ∧ Below w.heap.size w w' := by
  intro v w hv hx r1 r2 hr
  obtain ⟨i0, hi, hz0, hz1, hz2⟩ := info_parts info_ivB
  have hC := ev_cases (t := (t1, t2)) hXN hT
  rw [hr] at hC
  have hkv : ∀ a ∈ kids T, VI (evT X (t1, t2) a).1 (evT X (t1, t2) a).2 := fun a ha => evT_vi hvx hvt (kids_ev hT a ha)
  have hk2 := kids_le T
  have hpk := pre_kids T
  have KO := fun (w1 : World) (hv1 : NxC w1 v (pre T)) => rops_ok N T hT [] v w1 (by rw [List.append_nil]; exact hv1)
  generalize kids T = l at *
  generalize rtN T = x at *
  generalize pre T = m at *
  obtain ⟨op, n, lo, hi'⟩ := x
  obtain ⟨q, cq, rfl⟩ : ∃ q cq, v = .slice q m.length cq := by obtain ⟨_, p, c, e1, _⟩ := hv; exact ⟨p, c, e1⟩
  obtain ⟨px, cx, rfl⟩ := hx.cut
  obtain ⟨b0, o0, rfl, hb0, rd0⟩ := nd_rd (i := 0) hv.1 (x := ⟨op, n, lo, hi'⟩) (by rw [hpk]; rfl)
  have hq1 : (0 : Int) < m.length := by rw [hpk]; simp <;> omega
  have hXL := hx.1
  unfold maxLen at hXL
  dsimp only at hC
  have hE : Below w.heap.size w ((w.alloc (.cells #[.int .i64 t1, .int .i64 t2] 26)).alloc (.cells #[.int .i64 0, .int .i64 0] 26)) := allocs_below [.cells #[.int .i64 t1, .int .i64 t2] 26, .cells #[.int .i64 0, .int .i64 0] 26] w
  have HI := Lib.hid (show Blk ((w.alloc (.cells #[.int .i64 t1, .int .i64 t2] 26)).alloc (.cells #[.int .i64 0, .int .i64 0] 26)) (w.heap.size) (.cells #[.int .i64 t1, .int .i64 t2] 26) from allocs_at [.cells #[.int .i64 t1, .int .i64 t2] 26, .cells #[.int .i64 0, .int .i64 0] 26] w 0 _ rfl)
  have HRS := Lib.hid (show Blk ((w.alloc (.cells #[.int .i64 t1, .int .i64 t2] 26)).alloc (.cells #[.int .i64 0, .int .i64 0] 26)) (w.heap.size + 1) (.cells #[.int .i64 0, .int .i64 0] 26) from allocs_at [.cells #[.int .i64 t1, .int .i64 t2] 26, .cells #[.int .i64 0, .int .i64 0] 26] w 1 _ rfl)
  have hEs : (((w.alloc (.cells #[.int .i64 t1, .int .i64 t2] 26)).alloc (.cells #[.int .i64 0, .int .i64 0] 26))).heap.size = w.heap.size + 1 + 1 := by rw [alloc_sz, alloc_sz]
  have KO1 := Lib.hid (KO _ (grows_nxc _ _ _ _ hv hE))
  have HX := Lib.hid (hx.grow hE)
  have RD := Lib.hid rd0
  obtain ⟨E, hEE⟩ : ∃ E, ((w.alloc (.cells #[.int .i64 t1, .int .i64 t2] 26)).alloc (.cells #[.int .i64 0, .int .i64 0] 26)) = E := ⟨_, rfl⟩
  rw [hEE] at hE hEs HI HRS HX KO1
  have HEE := Lib.hid hEE
  have HE := Lib.hid hE
  have HIH := Lib.hid IH
  have HC := Lib.hid hC
  have HKV := Lib.hid hkv
  have HVX := Lib.hid hvx
  have HVT := Lib.hid hvt
  have HES := Lib.hid hEs
  clear hE hEE hv hx hvx hvt hXN hEs hC hkv IH hr hpk rd0 KO hT
  go_enter Tryz.func28, Tryz.ntmps28
  go_wp2_with (fail)
  rw [HEE.out]
  refine KO1.out.mono ?_
  rintro en w1 ⟨z, rfl, ⟨us, ho⟩, hB1⟩
  have hox := ho.lx (by rw [List.length_map]; unfold maxLen; omega) hB1
  obtain ⟨br, cr', rfl⟩ := own_slice ho.row
  rw [List.length_map] at hox ⊢
  have HOX := Lib.hid hox
  have HB1 := Lib.hid hB1
  have hA1 : Below w1.heap.size w1 (w1.alloc (.cells #[] 26)) := (Below.refl _ _).alloc (Nat.le_refl _) _
  have hR0 : (w1.alloc (.cells #[] 26)).ownsRow w1.heap.size 26 2 (.slice (some ⟨w1.heap.size, 0, none⟩) 0 0) 0 (cr encB ((l.map (evT X (t1, t2))).take 0)) := World.ownsRow_made (e := 26) (size := 2) w1 #[] 0 (Nat.le_refl _) (by decide) rfl
  have HA1 := Lib.hid hA1
  have HR0 := Lib.hid hR0
  clear hox hB1 ho KO1 hA1 hR0
  go_wp2_with (fail)
  go_loopw [8, 9] (fun v8 i wr => ∃ (k : Nat), i = .int .i64 k ∧ k ≤ l.length ∧ Hid (wr.ownsRow w1.heap.size 26 2 v8 k (cr encB ((l.map (evT X (t1, t2))).take k))) ∧ Hid (Below w1.heap.size w1 wr)) (fun v8 i _ => l.length - (intOf i).toNat)
  case atStart => exact ⟨0, rfl, Nat.zero_le _, HR0, HA1⟩
  case round =>
    clear HR0 HA1
    obtain ⟨k, rfl, hk, HR, HB⟩ := hrel
    obtain ⟨p8, c8, rfl⟩ := own_slice HR.out
    have hbs := HB.out.size
    have hbs1 := HB1.out.size
    have hes := HES.out
    by_cases hlk : k < l.length
    · have i3 : (k : Int) < l.length := by omega
      obtain ⟨a, ha⟩ : ∃ a, l[k]? = some a := ⟨_, List.getElem?_eq_getElem hlk⟩
      obtain ⟨bu, ou, u, rfl, hb2, rd2⟩ := HOX.out.rd grows_nxc (j := k) (x := pre a) (by rw [List.getElem?_map, ha]; rfl)
      have r0 := fun g : Grown wr => (rd2 ⟨g.w, below_then HB.out g.h⟩).2.1
      have hu := fun g : Grown wr => (rd2 ⟨g.w, below_then HB.out g.h⟩).2.2
      obtain ⟨pu, cu, rfl⟩ : ∃ q cq, u = .slice q (pre a).length cq := by obtain ⟨_, p, c, e1, _⟩ := hu ⟨wr, Below.refl _ _⟩; exact ⟨p, c, e1⟩
      obtain ⟨⟨s1, s2⟩, hs⟩ : ∃ r, evT X (t1, t2) a = r := ⟨_, rfl⟩
      have hnle : ¬ l.length ≤ k := by omega
      have hbw := below_then HB1.out HB.out
      have HBW := Lib.hid hbw
      have KI := Lib.hid (fun g : Grown wr => HIH.out a (List.mem_of_getElem? ha) _ g.w (hu g) (HX.out.grow (below_then HBW.out g.h)) s1 s2 hs)
      have x0 := fun g : Grown wr => heapN_cellj (HI.out.grow (below_then HBW.out g.h)) (k := 0) (u := .int .i64 t1) rfl
      have x1 := fun g : Grown wr => heapN_cellj (HI.out.grow (below_then HBW.out g.h)) (k := 1) (u := .int .i64 t2) rfl
      have hsn : (l.map (evT X (t1, t2))).take (k + 1) = (l.map (evT X (t1, t2))).take k ++ [(s1, s2)] := by rw [List.take_add_one, List.getElem?_map, ha, ← hs]; rfl
      have HSN := Lib.hid hsn
      clear ha hb2 rd2 hu hsn hs hbw
      go_wp2_with (fail)
      refine region_pred_n 9 (lk [(21, fun z_ _ => z_ = .slice p8 k c8), (22, fun z_ _ => z_ = .slice (some ⟨bu, ou, none⟩) l.length cr'), (23, fun z_ _ => z_ = .int .i64 (k : Int)), (24, fun z_ _ => z_ = .pointer (some ⟨bu, ou + k, none⟩)), (25, fun z_ _ => z_ = .slice pu (pre a).length cu), (26, fun z_ _ => z_ = .slice px X.length cx), (27, fun z_ _ => z_ = .agg #[.int .i64 t1, .int .i64 t2]), (28, fun z_ _ => z_ = .agg #[.int .i64 s1, .int .i64 s2]), (29, fun z_ w' => ∃ X_, z_ = .slice (some ⟨X_, 0, none⟩) 1 1 ∧ wr.heap.size ≤ X_ ∧ w'.heap[X_]? = some (.cells #[.int .i64 s1, .int .i64 s2] 26 (0, 0)))]) (by kernel_rfl) (by kernel_rfl) (lk_steady _ ⟨steady_eq _, steady_eq _, steady_eq _, steady_eq _, steady_eq _, steady_eq _, steady_eq _, steady_eq _, fun u w1 w2 hb ⟨X, e, h1, h2⟩ => ⟨X, e, h1, (hb.block X (Array.getElem?_eq_some_iff.1 h2).1).trans h2⟩, trivial⟩) ?_ ?_
      · refine ⟨?_, ?_, ?_, ?_, ?_, ?_, ?_, ?_, ?_, trivial⟩
        · refine ob_plain [8] rfl rfl fun aa g h => ?_
          have yy0 := seen_out (v := .slice p8 k c8) rfl rfl h.1
          have ee0 := getD_of yy0
          exact tupon_value (v := .slice p8 k c8) (by simp [go_sem, ee0, yy0]) (Below.refl _ _) rfl
        · refine ob_plain [7] rfl rfl fun aa g h => ?_
          have yy0 := seen_out (v := .slice (some ⟨bu, ou, none⟩) l.length cr') rfl rfl h.1
          have ee0 := getD_of yy0
          exact tupon_value (v := .slice (some ⟨bu, ou, none⟩) l.length cr') (by simp [go_sem, ee0, yy0]) (Below.refl _ _) rfl
        · refine ob_plain [9] rfl rfl fun aa g h => ?_
          have yy0 := seen_out (v := .int .i64 (k : Int)) rfl rfl h.1
          have ee0 := getD_of yy0
          exact tupon_value (v := .int .i64 (k : Int)) (by simp [go_sem, ee0, yy0]) (Below.refl _ _) rfl
        · refine ob_plain [22, 23] rfl rfl fun aa g h => ?_
          obtain ⟨_, yy0, rfl⟩ := seen_in rfl h.1
          have ee0 := getD_of yy0
          obtain ⟨_, yy1, rfl⟩ := seen_in rfl h.2.1
          have ee1 := getD_of yy1
          exact tupon_value (v := .pointer (some ⟨bu, ou + k, none⟩)) (by simp [go_sem, ee0, yy0, ee1, yy1, hnle]) (Below.refl _ _) rfl
        · refine ob_plain [24] rfl rfl fun aa g h => ?_
          obtain ⟨_, yy0, rfl⟩ := seen_in rfl h.1
          have ee0 := getD_of yy0
          exact tupon_value (v := .slice pu (pre a).length cu) (by simp [go_sem, ee0, yy0, r0 g]) (Below.refl _ _) rfl
        · refine ob_plain [1] rfl rfl fun aa g h => ?_
          have yy0 := seen_out (v := .slice px X.length cx) rfl rfl h.1
          have ee0 := getD_of yy0
          exact tupon_value (v := .slice px X.length cx) (by simp [go_sem, ee0, yy0]) (Below.refl _ _) rfl
        · refine ob_plain [5] rfl rfl fun aa g h => ?_
          have yy0 := seen_out (v := .pointer (some ⟨w.heap.size, 0, none⟩)) rfl rfl h.1
          have ee0 := getD_of yy0
          exact tupon_value (v := .agg #[.int .i64 t1, .int .i64 t2]) (by simp [go_sem, ee0, yy0, x0 g, x1 g]) (Below.refl _ _) rfl
        · refine ob_plain [25, 26, 27] rfl rfl fun aa g h => ?_
          obtain ⟨_, yy0, rfl⟩ := seen_in rfl h.1
          have ee0 := getD_of yy0
          obtain ⟨_, yy1, rfl⟩ := seen_in rfl h.2.1
          have ee1 := getD_of yy1
          obtain ⟨_, yy2, rfl⟩ := seen_in rfl h.2.2.1
          have ee2 := getD_of yy2
          refine tupon_enter (f := 28) (args := #[.slice pu (pre a).length cu, .slice px X.length cx, .agg #[.int .i64 t1, .int .i64 t2]]) (by simp [go_sem, ee0, yy0, ee1, yy1, ee2, yy2]) rfl ?_
          exact (KI.out g).mono fun e w' ⟨he, hB⟩ => ⟨_, he, hB, rfl⟩
        · refine ob_plain [28] rfl rfl fun aa g h => ?_
          obtain ⟨_, yy0, rfl⟩ := seen_in rfl h.1
          have ee0 := getD_of yy0
          exact tupon_value (v := .slice (some ⟨g.w.heap.size, 0, none⟩) 1 1) (w1 := g.w.alloc (.cells #[.int .i64 s1, .int .i64 s2] 26)) (by simp [go_sem, ee0, yy0]) ((Below.refl _ _).alloc (Nat.le_refl _) _) ⟨_, rfl, g.h.size, World.alloc_heap_new _ _⟩
      rintro w9 hB9 _ rfl _ rfl _ rfl _ rfl _ rfl _ rfl _ rfl _ rfl _ ⟨X29, rfl, hX29, hI29⟩
      simp only [Act.put, List.setIfInBounds_toArray, List.set_cons_succ, List.set_cons_zero, finP, List.drop_succ_cons, List.drop_zero, List.take_zero, List.filterMap_nil]
      have HR9 := Lib.hid (own_keptN HR.out hB9)
      have HB9 := Lib.hid (below_then HB.out hB9)
      have HNB := Lib.hid (two_iv (s1, s2) hI29)
      have hs9 := HB9.out.size
      clear hB9 hI29 hX29 x0 x1 r0 KI HR HB HBW
      go_wp2_with (at_builtin; refine wpList_append_own _ rfl (.tmp 21) (.tmp 29) 24 rfl w1.heap.size 26 i0 (.agg #[.int .i64 0, .int .i64 0]) 2 16 Tryz.underlying24 hi hz0 hz1 hz2 rfl (by decide) (.slice p8 k c8) k _ rfl HR9.out ⟨X29, 0, none⟩ 1 1 (encB (s1, s2)) rfl rfl HNB.out (one_b _) (by unfold maxLen; omega) (by omega) HB9.out.size ?_)
      intro v' w10 hown' hgrow _
      have hb10 := Below.grown HB9.out hgrow HB9.out.size (fun i hi => (HR9.out.lt i hi).1)
      obtain ⟨p6, c6, rfl⟩ := own_slice hown'
      have HR10 := Lib.hid hown'
      have HB10 := Lib.hid hb10
      clear hown' hgrow hb10 HR9 HB9
      go_wp2_with (fail)
      go_roundw
      case rel => exact ⟨k + 1, by go_num, by omega, Lib.hid (by rw [HSN.out, cr_snoc]; exact HR10.out), HB10⟩
      case measure => simp [intOf]; omega
    · obtain rfl : k = l.length := by omega
      have i3 : ¬ (l.length : Int) < l.length := by omega
      have hvals := HR.out
      rw [List.take_of_length_le (by rw [List.length_map]; exact Nat.le_refl _)] at hvals
      have hvv : Vx wr (.slice p8 l.length c8) (l.map (evT X (t1, t2))) := Rx.own encB_len (by rw [List.length_map]; exact hvals) (by rw [List.length_map]; unfold maxLen; omega)
      have HVV := Lib.hid hvv
      have hbw := below_then HB1.out HB.out
      have HBW := Lib.hid hbw
      obtain ⟨a0, a1, a2, a3⟩ := RD.out ⟨wr, below_then HE.out hbw⟩
      simp only [Nat.zero_mul, Nat.add_zero] at a0 a1 a2 a3
      have hrs := HRS.out.grow hbw
      have HRW := Lib.hid hrs
      have HBE := Lib.hid (below_then HE.out hbw)
      have hws : w.heap.size + 2 ≤ wr.heap.size := by have := hbw.size; omega
      clear hvals hvv hbw hrs HR HB RD HIH HOX
      rcases HC.out with ⟨rfl, hc⟩ | ⟨a, rfl, hc, hv1⟩ | ⟨a, b, rfl, hc, hv1⟩
      · clear HKV HVV HC
        rcases hc with ⟨rfl, hv1⟩ | ⟨rfl, j, rfl, hv1⟩ | ⟨rfl, hv1⟩
        · as_aux_lemma =>
          obtain ⟨rfl, rfl⟩ := Prod.mk.inj hv1
          have hr_ := HRW.out
          have q0 := heapN_cellj hr_ (k := 0) rfl
          have q1 := heapN_cellj hr_ (k := 1) rfl
          have y0 : wr.frozen? ⟨w.heap.size + 1, 0, none⟩ = false := by simp [World.frozen?, show wr.heap[w.heap.size + 1]? = _ from hr_]
          have y1 : wr.frozen? ⟨w.heap.size + 1, 1, none⟩ = false := by simp [World.frozen?, show wr.heap[w.heap.size + 1]? = _ from hr_]
          have HW9 := Lib.hid (((HBE.out).setCell (p := ⟨w.heap.size + 1, 0, none⟩) (by dsimp only; omega) (.int .i64 (r1))).setCell (p := ⟨w.heap.size + 1, 1, none⟩) (by dsimp only; omega) (.int .i64 (r2)))
          have hs9 := cellsT_setN (o := 1) (u := .int .i64 (r2)) (cellsT_setN (o := 0) (u := .int .i64 (r1)) hr_)
          have x0 := heapN_cellj hs9 (k := 0) (u := .int .i64 (r1)) rfl
          have x1 := heapN_cellj hs9 (k := 1) (u := .int .i64 (r2)) rfl
          clear hs9 hr_
          go_wp2_with (fail)
          exact bodyPost_ret (v := .agg #[.int .i64 (r1), .int .i64 (r2)]) (by simp [results, Tryz.results28, go_sem, x0, x1]) rfl ⟨rfl, HW9.out⟩
        · as_aux_lemma =>
          obtain ⟨bx, ox, rfl, hbx, rdx⟩ := HX.out.rd hv1
          have g0 := rdx ⟨wr, HBW.out⟩ 0 _ rfl
          have g1 := rdx ⟨wr, HBW.out⟩ 1 _ rfl
          simp only [Nat.add_zero] at g0 g1
          have hjx : j < X.length := (List.getElem?_eq_some_iff.1 hv1).1
          clear rdx hv1
          have hr_ := HRW.out
          have q0 := heapN_cellj hr_ (k := 0) rfl
          have q1 := heapN_cellj hr_ (k := 1) rfl
          have y0 : wr.frozen? ⟨w.heap.size + 1, 0, none⟩ = false := by simp [World.frozen?, show wr.heap[w.heap.size + 1]? = _ from hr_]
          have y1 : wr.frozen? ⟨w.heap.size + 1, 1, none⟩ = false := by simp [World.frozen?, show wr.heap[w.heap.size + 1]? = _ from hr_]
          have HW9 := Lib.hid (((HBE.out).setCell (p := ⟨w.heap.size + 1, 0, none⟩) (by dsimp only; omega) (.int .i64 (r1))).setCell (p := ⟨w.heap.size + 1, 1, none⟩) (by dsimp only; omega) (.int .i64 (r2)))
          have hs9 := cellsT_setN (o := 1) (u := .int .i64 (r2)) (cellsT_setN (o := 0) (u := .int .i64 (r1)) hr_)
          have x0 := heapN_cellj hs9 (k := 0) (u := .int .i64 (r1)) rfl
          have x1 := heapN_cellj hs9 (k := 1) (u := .int .i64 (r2)) rfl
          clear hs9 hr_
          go_wp2_with (fail)
          exact bodyPost_ret (v := .agg #[.int .i64 (r1), .int .i64 (r2)]) (by simp [results, Tryz.results28, go_sem, x0, x1]) rfl ⟨rfl, HW9.out⟩
        · as_aux_lemma =>
          obtain ⟨rfl, rfl⟩ := Prod.mk.inj hv1
          have g0 := heapN_cellj (HI.out.grow HBW.out) (k := 0) (u := .int .i64 r1) rfl
          have g1 := heapN_cellj (HI.out.grow HBW.out) (k := 1) (u := .int .i64 r2) rfl
          have hr_ := HRW.out
          have q0 := heapN_cellj hr_ (k := 0) rfl
          have q1 := heapN_cellj hr_ (k := 1) rfl
          have y0 : wr.frozen? ⟨w.heap.size + 1, 0, none⟩ = false := by simp [World.frozen?, show wr.heap[w.heap.size + 1]? = _ from hr_]
          have y1 : wr.frozen? ⟨w.heap.size + 1, 1, none⟩ = false := by simp [World.frozen?, show wr.heap[w.heap.size + 1]? = _ from hr_]
          have HW9 := Lib.hid (((HBE.out).setCell (p := ⟨w.heap.size + 1, 0, none⟩) (by dsimp only; omega) (.int .i64 (r1))).setCell (p := ⟨w.heap.size + 1, 1, none⟩) (by dsimp only; omega) (.int .i64 (r2)))
          have hs9 := cellsT_setN (o := 1) (u := .int .i64 (r2)) (cellsT_setN (o := 0) (u := .int .i64 (r1)) hr_)
          have x0 := heapN_cellj hs9 (k := 0) (u := .int .i64 (r1)) rfl
          have x1 := heapN_cellj hs9 (k := 1) (u := .int .i64 (r2)) rfl
          clear hs9 hr_
          go_wp2_with (fail)
          exact bodyPost_ret (v := .agg #[.int .i64 (r1), .int .i64 (r2)]) (by simp [results, Tryz.results28, go_sem, x0, x1]) rfl ⟨rfl, HW9.out⟩
      · obtain ⟨ab, ao, hpa, hlta, ard⟩ := HVV.out.rd (i := 0) (x := evT X (t1, t2) a) rfl
        obtain ⟨⟨a1, a2⟩, ha⟩ : ∃ r, evT X (t1, t2) a = r := ⟨_, rfl⟩
        rw [ha] at ard hv1
        have av := HKV.out a (by simp)
        rw [ha] at av
        dsimp only at av
        have ag0 := fun g : Grown wr => ard g 0 _ rfl
        have ag1 := fun g : Grown wr => ard g 1 _ rfl
        simp only [Nat.zero_mul, Nat.add_zero, Nat.one_mul] at ag0 ag1
        subst hpa
        clear HC
        rcases hc with rfl | rfl | rfl
        · as_aux_lemma =>
          rw [op_neg] at hv1
          obtain ⟨rfl, rfl⟩ := Prod.mk.inj hv1
          have m0 := ag0 ⟨wr, Below.refl _ _⟩
          have m1 := ag1 ⟨wr, Below.refl _ _⟩
          have K := Lib.hid (by obtain ⟨h1, h2, h3, h4, h5⟩ := av.bd; exact r2neg a1 a2 wr h1 h2 h3 h4)
          clear ag0 ag1 ard hv1
          go_wp2_with (fail)
          refine K.out.mono ?_
          rintro en w5 ⟨rfl, hB5⟩
          have hbe5 := below_then HBE.out hB5
          have hw5 := hB5.size
          have hr_ := HRW.out.grow hB5
          have q0 := heapN_cellj hr_ (k := 0) rfl
          have q1 := heapN_cellj hr_ (k := 1) rfl
          have y0 : w5.frozen? ⟨w.heap.size + 1, 0, none⟩ = false := by simp [World.frozen?, show w5.heap[w.heap.size + 1]? = _ from hr_]
          have y1 : w5.frozen? ⟨w.heap.size + 1, 1, none⟩ = false := by simp [World.frozen?, show w5.heap[w.heap.size + 1]? = _ from hr_]
          have HW9 := Lib.hid (((hbe5).setCell (p := ⟨w.heap.size + 1, 0, none⟩) (by dsimp only; omega) (.int .i64 (-a2))).setCell (p := ⟨w.heap.size + 1, 1, none⟩) (by dsimp only; omega) (.int .i64 (-a1)))
          have hs9 := cellsT_setN (o := 1) (u := .int .i64 (-a1)) (cellsT_setN (o := 0) (u := .int .i64 (-a2)) hr_)
          have x0 := heapN_cellj hs9 (k := 0) (u := .int .i64 (-a2)) rfl
          have x1 := heapN_cellj hs9 (k := 1) (u := .int .i64 (-a1)) rfl
          clear hs9 hr_
          go_wp2_with (fail)
          exact bodyPost_ret (v := .agg #[.int .i64 (-a2), .int .i64 (-a1)]) (by simp [results, Tryz.results28, go_sem, x0, x1]) rfl ⟨rfl, HW9.out⟩
        · as_aux_lemma =>
          rw [op_sqr] at hv1
          obtain ⟨rfl, rfl⟩ := Prod.mk.inj hv1
          have m0 := ag0 ⟨wr, Below.refl _ _⟩
          have m1 := ag1 ⟨wr, Below.refl _ _⟩
          have K := Lib.hid (r2square a1 a2 wr av)
          clear ag0 ag1 ard hv1
          go_wp2_with (fail)
          refine K.out.mono ?_
          rintro en w5 ⟨rfl, hB5⟩
          have hbe5 := below_then HBE.out hB5
          have hw5 := hB5.size
          have hr_ := HRW.out.grow hB5
          have q0 := heapN_cellj hr_ (k := 0) rfl
          have q1 := heapN_cellj hr_ (k := 1) rfl
          have y0 : w5.frozen? ⟨w.heap.size + 1, 0, none⟩ = false := by simp [World.frozen?, show w5.heap[w.heap.size + 1]? = _ from hr_]
          have y1 : w5.frozen? ⟨w.heap.size + 1, 1, none⟩ = false := by simp [World.frozen?, show w5.heap[w.heap.size + 1]? = _ from hr_]
          have HW9 := Lib.hid (((hbe5).setCell (p := ⟨w.heap.size + 1, 0, none⟩) (by dsimp only; omega) (.int .i64 (sqLo a1 a2))).setCell (p := ⟨w.heap.size + 1, 1, none⟩) (by dsimp only; omega) (.int .i64 (sqHi a1 a2)))
          have hs9 := cellsT_setN (o := 1) (u := .int .i64 (sqHi a1 a2)) (cellsT_setN (o := 0) (u := .int .i64 (sqLo a1 a2)) hr_)
          have x0 := heapN_cellj hs9 (k := 0) (u := .int .i64 (sqLo a1 a2)) rfl
          have x1 := heapN_cellj hs9 (k := 1) (u := .int .i64 (sqHi a1 a2)) rfl
          clear hs9 hr_
          go_wp2_with (fail)
          exact bodyPost_ret (v := .agg #[.int .i64 (sqLo a1 a2), .int .i64 (sqHi a1 a2)]) (by simp [results, Tryz.results28, go_sem, x0, x1]) rfl ⟨rfl, HW9.out⟩
        · as_aux_lemma =>
          rw [op_rt] at hv1
          have m0 := ag0 ⟨wr, Below.refl _ _⟩
          have m1 := ag1 ⟨wr, Below.refl _ _⟩
          clear ag0 ag1 ard
          by_cases hneg : a1 < 0
          · have hre : rtI (a1, a2) = (-2147483648, 2147483648) := by unfold rtI; rw [if_pos hneg]
            rw [hre] at hv1
            obtain ⟨rfl, rfl⟩ := Prod.mk.inj hv1
            have K := Lib.hid (r2entire wr)
            clear hv1 hre
            go_wp2_with (fail)
            refine K.out.mono ?_
            rintro en w5 ⟨rfl, hB5⟩
            have hbe5 := below_then HBE.out hB5
            have hw5 := hB5.size
            have hr_ := HRW.out.grow hB5
            have q0 := heapN_cellj hr_ (k := 0) rfl
            have q1 := heapN_cellj hr_ (k := 1) rfl
            have y0 : w5.frozen? ⟨w.heap.size + 1, 0, none⟩ = false := by simp [World.frozen?, show w5.heap[w.heap.size + 1]? = _ from hr_]
            have y1 : w5.frozen? ⟨w.heap.size + 1, 1, none⟩ = false := by simp [World.frozen?, show w5.heap[w.heap.size + 1]? = _ from hr_]
            have HW9 := Lib.hid (((hbe5).setCell (p := ⟨w.heap.size + 1, 0, none⟩) (by dsimp only; omega) (.int .i64 (-2147483648))).setCell (p := ⟨w.heap.size + 1, 1, none⟩) (by dsimp only; omega) (.int .i64 (2147483648)))
            have hs9 := cellsT_setN (o := 1) (u := .int .i64 (2147483648)) (cellsT_setN (o := 0) (u := .int .i64 (-2147483648)) hr_)
            have x0 := heapN_cellj hs9 (k := 0) (u := .int .i64 (-2147483648)) rfl
            have x1 := heapN_cellj hs9 (k := 1) (u := .int .i64 (2147483648)) rfl
            clear hs9 hr_
            go_wp2_with (fail)
            exact bodyPost_ret (v := .agg #[.int .i64 (-2147483648), .int .i64 (2147483648)]) (by simp [results, Tryz.results28, go_sem, x0, x1]) rfl ⟨rfl, HW9.out⟩
          · have K := Lib.hid (r7root a1 a2 wr av hneg)
            rw [← hv1] at K
            clear hv1
            go_wp2_with (fail)
            refine K.out.mono ?_
            rintro en w5 ⟨rfl, hB5⟩
            have hA5 := hB5.alloc hB5.size (.cells #[.int .i64 r1, .int .i64 r2] 26)
            have hbe5 := below_then HBE.out hA5
            have hw5 := hA5.size
            have hr_ := HRW.out.grow hA5
            have q0 := heapN_cellj hr_ (k := 0) rfl
            have q1 := heapN_cellj hr_ (k := 1) rfl
            have y0 : (w5.alloc (.cells #[.int .i64 r1, .int .i64 r2] 26)).frozen? ⟨w.heap.size + 1, 0, none⟩ = false := by simp [World.frozen?, show (w5.alloc (.cells #[.int .i64 r1, .int .i64 r2] 26)).heap[w.heap.size + 1]? = _ from hr_]
            have y1 : (w5.alloc (.cells #[.int .i64 r1, .int .i64 r2] 26)).frozen? ⟨w.heap.size + 1, 1, none⟩ = false := by simp [World.frozen?, show (w5.alloc (.cells #[.int .i64 r1, .int .i64 r2] 26)).heap[w.heap.size + 1]? = _ from hr_]
            have HW9 := Lib.hid (((hbe5).setCell (p := ⟨w.heap.size + 1, 0, none⟩) (by dsimp only; omega) (.int .i64 (r1))).setCell (p := ⟨w.heap.size + 1, 1, none⟩) (by dsimp only; omega) (.int .i64 (r2)))
            have hs9 := cellsT_setN (o := 1) (u := .int .i64 (r2)) (cellsT_setN (o := 0) (u := .int .i64 (r1)) hr_)
            have x0 := heapN_cellj hs9 (k := 0) (u := .int .i64 (r1)) rfl
            have x1 := heapN_cellj hs9 (k := 1) (u := .int .i64 (r2)) rfl
            clear hs9 hr_
            go_wp2_with (fail)
            exact bodyPost_ret (v := .agg #[.int .i64 (r1), .int .i64 (r2)]) (by simp [results, Tryz.results28, go_sem, x0, x1]) rfl ⟨rfl, HW9.out⟩
      · obtain ⟨ab, ao, hpa, hlta, ard⟩ := HVV.out.rd (i := 0) (x := evT X (t1, t2) a) rfl
        obtain ⟨⟨a1, a2⟩, ha⟩ : ∃ r, evT X (t1, t2) a = r := ⟨_, rfl⟩
        rw [ha] at ard hv1
        have av := HKV.out a (by simp)
        rw [ha] at av
        dsimp only at av
        have ag0 := fun g : Grown wr => ard g 0 _ rfl
        have ag1 := fun g : Grown wr => ard g 1 _ rfl
        simp only [Nat.zero_mul, Nat.add_zero, Nat.one_mul] at ag0 ag1
        obtain ⟨bb, bo, hpb, hltb, brd⟩ := HVV.out.rd (i := 1) (x := evT X (t1, t2) b) rfl
        obtain ⟨⟨b1, b2⟩, hb⟩ : ∃ r, evT X (t1, t2) b = r := ⟨_, rfl⟩
        rw [hb] at brd hv1
        have bv := HKV.out b (by simp)
        rw [hb] at bv
        dsimp only at bv
        have bg0 := fun g : Grown wr => brd g 0 _ rfl
        have bg1 := fun g : Grown wr => brd g 1 _ rfl
        simp only [Nat.zero_mul, Nat.add_zero, Nat.one_mul] at bg0 bg1
        subst hpa
        obtain ⟨rfl, rfl⟩ : ab = bb ∧ ao = bo := by simpa using hpb
        clear HC
        rcases hc with rfl | rfl | rfl | rfl
        · as_aux_lemma =>
          rw [op_add] at hv1
          obtain ⟨rfl, rfl⟩ := Prod.mk.inj hv1
          have K := Lib.hid (fun g : Grown wr => (by have h := av.bd; have k := bv.bd; exact r2add a1 a2 b1 b2 g.w (by omega) (by omega) (by omega) (by omega) (by omega) (by omega) (by omega) (by omega) : Calls Tryz.prog 36 #[.agg #[.int .i64 a1, .int .i64 a2], .agg #[.int .i64 b1, .int .i64 b2]] g.w fun e w' => e = .returned (.agg #[.int .i64 (addLo a1 a2 b1 b2), .int .i64 (addHi a1 a2 b1 b2)]) ∧ Below g.w.heap.size g.w w'))
          clear hv1 ard brd
          go_wp2_with (fail)
          refine region_pred_n 7 (lk [(83, fun z_ _ => z_ = .slice (some ⟨ab, ao, none⟩) 2 c8), (84, fun z_ _ => z_ = .pointer (some ⟨ab, ao, none⟩)), (85, fun z_ _ => z_ = .agg #[.int .i64 a1, .int .i64 a2]), (86, fun z_ _ => z_ = .slice (some ⟨ab, ao, none⟩) 2 c8), (87, fun z_ _ => z_ = .pointer (some ⟨ab, ao + 1 * 2, none⟩)), (88, fun z_ _ => z_ = .agg #[.int .i64 b1, .int .i64 b2]), (89, fun z_ _ => z_ = .agg #[.int .i64 (addLo a1 a2 b1 b2), .int .i64 (addHi a1 a2 b1 b2)])]) (by kernel_rfl) (by kernel_rfl) (lk_steady _ ⟨steady_eq _, steady_eq _, steady_eq _, steady_eq _, steady_eq _, steady_eq _, steady_eq _, trivial⟩) ?_ ?_
          · refine ⟨?_, ?_, ?_, ?_, ?_, ?_, ?_, trivial⟩
            · refine ob_plain [8] rfl rfl fun aa g h => ?_
              have yy0 := seen_out (v := .slice (some ⟨ab, ao, none⟩) 2 c8) rfl rfl h.1
              have ee0 := getD_of yy0
              exact tupon_value (v := .slice (some ⟨ab, ao, none⟩) 2 c8) (by simp [go_sem, ee0, yy0]) (Below.refl _ _) rfl
            · refine ob_plain [83] rfl rfl fun aa g h => ?_
              obtain ⟨_, yy0, rfl⟩ := seen_in rfl h.1
              have ee0 := getD_of yy0
              exact tupon_value (v := .pointer (some ⟨ab, ao, none⟩)) (by simp [go_sem, ee0, yy0]) (Below.refl _ _) rfl
            · refine ob_plain [84] rfl rfl fun aa g h => ?_
              obtain ⟨_, yy0, rfl⟩ := seen_in rfl h.1
              have ee0 := getD_of yy0
              exact tupon_value (v := .agg #[.int .i64 a1, .int .i64 a2]) (by simp [go_sem, ee0, yy0, ag0 g, ag1 g]) (Below.refl _ _) rfl
            · refine ob_plain [8] rfl rfl fun aa g h => ?_
              have yy0 := seen_out (v := .slice (some ⟨ab, ao, none⟩) 2 c8) rfl rfl h.1
              have ee0 := getD_of yy0
              exact tupon_value (v := .slice (some ⟨ab, ao, none⟩) 2 c8) (by simp [go_sem, ee0, yy0]) (Below.refl _ _) rfl
            · refine ob_plain [86] rfl rfl fun aa g h => ?_
              obtain ⟨_, yy0, rfl⟩ := seen_in rfl h.1
              have ee0 := getD_of yy0
              exact tupon_value (v := .pointer (some ⟨ab, ao + 1 * 2, none⟩)) (by simp [go_sem, ee0, yy0]) (Below.refl _ _) rfl
            · refine ob_plain [87] rfl rfl fun aa g h => ?_
              obtain ⟨_, yy0, rfl⟩ := seen_in rfl h.1
              have ee0 := getD_of yy0
              exact tupon_value (v := .agg #[.int .i64 b1, .int .i64 b2]) (by simp [go_sem, ee0, yy0, bg0 g, bg1 g]) (Below.refl _ _) rfl
            · refine ob_plain [85, 88] rfl rfl fun aa g h => ?_
              obtain ⟨_, yy0, rfl⟩ := seen_in rfl h.1
              have ee0 := getD_of yy0
              obtain ⟨_, yy1, rfl⟩ := seen_in rfl h.2.1
              have ee1 := getD_of yy1
              refine tupon_enter (f := 36) (args := #[.agg #[.int .i64 a1, .int .i64 a2], .agg #[.int .i64 b1, .int .i64 b2]]) (by simp [go_sem, ee0, yy0, ee1, yy1]) rfl ?_
              exact (K.out g).mono fun e w' ⟨he, hB⟩ => ⟨_, he, hB, rfl⟩
          rintro w9 hB9 _ rfl _ rfl _ rfl _ rfl _ rfl _ rfl _ rfl
          simp only [Act.put, List.setIfInBounds_toArray, List.set_cons_succ, List.set_cons_zero, finP, List.drop_succ_cons, List.drop_zero, List.take_zero, List.filterMap_nil]
          have hbe9 := below_then HBE.out hB9
          have hw9 := hB9.size
          have hr_ := HRW.out.grow hB9
          have q0 := heapN_cellj hr_ (k := 0) rfl
          have q1 := heapN_cellj hr_ (k := 1) rfl
          have y0 : w9.frozen? ⟨w.heap.size + 1, 0, none⟩ = false := by simp [World.frozen?, show w9.heap[w.heap.size + 1]? = _ from hr_]
          have y1 : w9.frozen? ⟨w.heap.size + 1, 1, none⟩ = false := by simp [World.frozen?, show w9.heap[w.heap.size + 1]? = _ from hr_]
          have HW9 := Lib.hid (((hbe9).setCell (p := ⟨w.heap.size + 1, 0, none⟩) (by dsimp only; omega) (.int .i64 (addLo a1 a2 b1 b2))).setCell (p := ⟨w.heap.size + 1, 1, none⟩) (by dsimp only; omega) (.int .i64 (addHi a1 a2 b1 b2)))
          have hs9 := cellsT_setN (o := 1) (u := .int .i64 (addHi a1 a2 b1 b2)) (cellsT_setN (o := 0) (u := .int .i64 (addLo a1 a2 b1 b2)) hr_)
          have x0 := heapN_cellj hs9 (k := 0) (u := .int .i64 (addLo a1 a2 b1 b2)) rfl
          have x1 := heapN_cellj hs9 (k := 1) (u := .int .i64 (addHi a1 a2 b1 b2)) rfl
          clear hs9 hr_
          go_wp2_with (fail)
          exact bodyPost_ret (v := .agg #[.int .i64 (addLo a1 a2 b1 b2), .int .i64 (addHi a1 a2 b1 b2)]) (by simp [results, Tryz.results28, go_sem, x0, x1]) rfl ⟨rfl, HW9.out⟩
        · as_aux_lemma =>
          rw [op_sub] at hv1
          obtain ⟨rfl, rfl⟩ := Prod.mk.inj hv1
          have K := Lib.hid (fun g : Grown wr => (by have h := av.bd; have k := bv.bd; exact r2sub a1 a2 b1 b2 g.w (by omega) (by omega) (by omega) (by omega) (by omega) (by omega) (by omega) (by omega) : Calls Tryz.prog 37 #[.agg #[.int .i64 a1, .int .i64 a2], .agg #[.int .i64 b1, .int .i64 b2]] g.w fun e w' => e = .returned (.agg #[.int .i64 (addLo a1 a2 (-b2) (-b1)), .int .i64 (addHi a1 a2 (-b2) (-b1))]) ∧ Below g.w.heap.size g.w w'))
          clear hv1 ard brd
          go_wp2_with (fail)
          refine region_pred_n 7 (lk [(92, fun z_ _ => z_ = .slice (some ⟨ab, ao, none⟩) 2 c8), (93, fun z_ _ => z_ = .pointer (some ⟨ab, ao, none⟩)), (94, fun z_ _ => z_ = .agg #[.int .i64 a1, .int .i64 a2]), (95, fun z_ _ => z_ = .slice (some ⟨ab, ao, none⟩) 2 c8), (96, fun z_ _ => z_ = .pointer (some ⟨ab, ao + 1 * 2, none⟩)), (97, fun z_ _ => z_ = .agg #[.int .i64 b1, .int .i64 b2]), (98, fun z_ _ => z_ = .agg #[.int .i64 (addLo a1 a2 (-b2) (-b1)), .int .i64 (addHi a1 a2 (-b2) (-b1))])]) (by kernel_rfl) (by kernel_rfl) (lk_steady _ ⟨steady_eq _, steady_eq _, steady_eq _, steady_eq _, steady_eq _, steady_eq _, steady_eq _, trivial⟩) ?_ ?_
          · refine ⟨?_, ?_, ?_, ?_, ?_, ?_, ?_, trivial⟩
            · refine ob_plain [8] rfl rfl fun aa g h => ?_
              have yy0 := seen_out (v := .slice (some ⟨ab, ao, none⟩) 2 c8) rfl rfl h.1
              have ee0 := getD_of yy0
              exact tupon_value (v := .slice (some ⟨ab, ao, none⟩) 2 c8) (by simp [go_sem, ee0, yy0]) (Below.refl _ _) rfl
            · refine ob_plain [92] rfl rfl fun aa g h => ?_
              obtain ⟨_, yy0, rfl⟩ := seen_in rfl h.1
              have ee0 := getD_of yy0
              exact tupon_value (v := .pointer (some ⟨ab, ao, none⟩)) (by simp [go_sem, ee0, yy0]) (Below.refl _ _) rfl
            · refine ob_plain [93] rfl rfl fun aa g h => ?_
              obtain ⟨_, yy0, rfl⟩ := seen_in rfl h.1
              have ee0 := getD_of yy0
              exact tupon_value (v := .agg #[.int .i64 a1, .int .i64 a2]) (by simp [go_sem, ee0, yy0, ag0 g, ag1 g]) (Below.refl _ _) rfl
            · refine ob_plain [8] rfl rfl fun aa g h => ?_
              have yy0 := seen_out (v := .slice (some ⟨ab, ao, none⟩) 2 c8) rfl rfl h.1
              have ee0 := getD_of yy0
              exact tupon_value (v := .slice (some ⟨ab, ao, none⟩) 2 c8) (by simp [go_sem, ee0, yy0]) (Below.refl _ _) rfl
            · refine ob_plain [95] rfl rfl fun aa g h => ?_
              obtain ⟨_, yy0, rfl⟩ := seen_in rfl h.1
              have ee0 := getD_of yy0
              exact tupon_value (v := .pointer (some ⟨ab, ao + 1 * 2, none⟩)) (by simp [go_sem, ee0, yy0]) (Below.refl _ _) rfl
            · refine ob_plain [96] rfl rfl fun aa g h => ?_
              obtain ⟨_, yy0, rfl⟩ := seen_in rfl h.1
              have ee0 := getD_of yy0
              exact tupon_value (v := .agg #[.int .i64 b1, .int .i64 b2]) (by simp [go_sem, ee0, yy0, bg0 g, bg1 g]) (Below.refl _ _) rfl
            · refine ob_plain [94, 97] rfl rfl fun aa g h => ?_
              obtain ⟨_, yy0, rfl⟩ := seen_in rfl h.1
              have ee0 := getD_of yy0
              obtain ⟨_, yy1, rfl⟩ := seen_in rfl h.2.1
              have ee1 := getD_of yy1
              refine tupon_enter (f := 37) (args := #[.agg #[.int .i64 a1, .int .i64 a2], .agg #[.int .i64 b1, .int .i64 b2]]) (by simp [go_sem, ee0, yy0, ee1, yy1]) rfl ?_
              exact (K.out g).mono fun e w' ⟨he, hB⟩ => ⟨_, he, hB, rfl⟩
          rintro w9 hB9 _ rfl _ rfl _ rfl _ rfl _ rfl _ rfl _ rfl
          simp only [Act.put, List.setIfInBounds_toArray, List.set_cons_succ, List.set_cons_zero, finP, List.drop_succ_cons, List.drop_zero, List.take_zero, List.filterMap_nil]
          have hbe9 := below_then HBE.out hB9
          have hw9 := hB9.size
          have hr_ := HRW.out.grow hB9
          have q0 := heapN_cellj hr_ (k := 0) rfl
          have q1 := heapN_cellj hr_ (k := 1) rfl
          have y0 : w9.frozen? ⟨w.heap.size + 1, 0, none⟩ = false := by simp [World.frozen?, show w9.heap[w.heap.size + 1]? = _ from hr_]
          have y1 : w9.frozen? ⟨w.heap.size + 1, 1, none⟩ = false := by simp [World.frozen?, show w9.heap[w.heap.size + 1]? = _ from hr_]
          have HW9 := Lib.hid (((hbe9).setCell (p := ⟨w.heap.size + 1, 0, none⟩) (by dsimp only; omega) (.int .i64 (addLo a1 a2 (-b2) (-b1)))).setCell (p := ⟨w.heap.size + 1, 1, none⟩) (by dsimp only; omega) (.int .i64 (addHi a1 a2 (-b2) (-b1))))
          have hs9 := cellsT_setN (o := 1) (u := .int .i64 (addHi a1 a2 (-b2) (-b1))) (cellsT_setN (o := 0) (u := .int .i64 (addLo a1 a2 (-b2) (-b1))) hr_)
          have x0 := heapN_cellj hs9 (k := 0) (u := .int .i64 (addLo a1 a2 (-b2) (-b1))) rfl
          have x1 := heapN_cellj hs9 (k := 1) (u := .int .i64 (addHi a1 a2 (-b2) (-b1))) rfl
          clear hs9 hr_
          go_wp2_with (fail)
          exact bodyPost_ret (v := .agg #[.int .i64 (addLo a1 a2 (-b2) (-b1)), .int .i64 (addHi a1 a2 (-b2) (-b1))]) (by simp [results, Tryz.results28, go_sem, x0, x1]) rfl ⟨rfl, HW9.out⟩
        · as_aux_lemma =>
          rw [op_mul] at hv1
          obtain ⟨rfl, rfl⟩ := Prod.mk.inj hv1
          have K := Lib.hid (fun g : Grown wr => (by exact r2mul a1 a2 b1 b2 g.w av bv : Calls Tryz.prog 59 #[.agg #[.int .i64 a1, .int .i64 a2], .agg #[.int .i64 b1, .int .i64 b2]] g.w fun e w' => e = .returned (.agg #[.int .i64 (mulLo a1 a2 b1 b2), .int .i64 (mulHi a1 a2 b1 b2)]) ∧ Below g.w.heap.size g.w w'))
          clear hv1 ard brd
          go_wp2_with (fail)
          refine region_pred_n 7 (lk [(101, fun z_ _ => z_ = .slice (some ⟨ab, ao, none⟩) 2 c8), (102, fun z_ _ => z_ = .pointer (some ⟨ab, ao, none⟩)), (103, fun z_ _ => z_ = .agg #[.int .i64 a1, .int .i64 a2]), (104, fun z_ _ => z_ = .slice (some ⟨ab, ao, none⟩) 2 c8), (105, fun z_ _ => z_ = .pointer (some ⟨ab, ao + 1 * 2, none⟩)), (106, fun z_ _ => z_ = .agg #[.int .i64 b1, .int .i64 b2]), (107, fun z_ _ => z_ = .agg #[.int .i64 (mulLo a1 a2 b1 b2), .int .i64 (mulHi a1 a2 b1 b2)])]) (by kernel_rfl) (by kernel_rfl) (lk_steady _ ⟨steady_eq _, steady_eq _, steady_eq _, steady_eq _, steady_eq _, steady_eq _, steady_eq _, trivial⟩) ?_ ?_
          · refine ⟨?_, ?_, ?_, ?_, ?_, ?_, ?_, trivial⟩
            · refine ob_plain [8] rfl rfl fun aa g h => ?_
              have yy0 := seen_out (v := .slice (some ⟨ab, ao, none⟩) 2 c8) rfl rfl h.1
              have ee0 := getD_of yy0
              exact tupon_value (v := .slice (some ⟨ab, ao, none⟩) 2 c8) (by simp [go_sem, ee0, yy0]) (Below.refl _ _) rfl
            · refine ob_plain [101] rfl rfl fun aa g h => ?_
              obtain ⟨_, yy0, rfl⟩ := seen_in rfl h.1
              have ee0 := getD_of yy0
              exact tupon_value (v := .pointer (some ⟨ab, ao, none⟩)) (by simp [go_sem, ee0, yy0]) (Below.refl _ _) rfl
            · refine ob_plain [102] rfl rfl fun aa g h => ?_
              obtain ⟨_, yy0, rfl⟩ := seen_in rfl h.1
              have ee0 := getD_of yy0
              exact tupon_value (v := .agg #[.int .i64 a1, .int .i64 a2]) (by simp [go_sem, ee0, yy0, ag0 g, ag1 g]) (Below.refl _ _) rfl
            · refine ob_plain [8] rfl rfl fun aa g h => ?_
              have yy0 := seen_out (v := .slice (some ⟨ab, ao, none⟩) 2 c8) rfl rfl h.1
              have ee0 := getD_of yy0
              exact tupon_value (v := .slice (some ⟨ab, ao, none⟩) 2 c8) (by simp [go_sem, ee0, yy0]) (Below.refl _ _) rfl
            · refine ob_plain [104] rfl rfl fun aa g h => ?_
              obtain ⟨_, yy0, rfl⟩ := seen_in rfl h.1
              have ee0 := getD_of yy0
              exact tupon_value (v := .pointer (some ⟨ab, ao + 1 * 2, none⟩)) (by simp [go_sem, ee0, yy0]) (Below.refl _ _) rfl
            · refine ob_plain [105] rfl rfl fun aa g h => ?_
              obtain ⟨_, yy0, rfl⟩ := seen_in rfl h.1
              have ee0 := getD_of yy0
              exact tupon_value (v := .agg #[.int .i64 b1, .int .i64 b2]) (by simp [go_sem, ee0, yy0, bg0 g, bg1 g]) (Below.refl _ _) rfl
            · refine ob_plain [103, 106] rfl rfl fun aa g h => ?_
              obtain ⟨_, yy0, rfl⟩ := seen_in rfl h.1
              have ee0 := getD_of yy0
              obtain ⟨_, yy1, rfl⟩ := seen_in rfl h.2.1
              have ee1 := getD_of yy1
              refine tupon_enter (f := 59) (args := #[.agg #[.int .i64 a1, .int .i64 a2], .agg #[.int .i64 b1, .int .i64 b2]]) (by simp [go_sem, ee0, yy0, ee1, yy1]) rfl ?_
              exact (K.out g).mono fun e w' ⟨he, hB⟩ => ⟨_, he, hB, rfl⟩
          rintro w9 hB9 _ rfl _ rfl _ rfl _ rfl _ rfl _ rfl _ rfl
          simp only [Act.put, List.setIfInBounds_toArray, List.set_cons_succ, List.set_cons_zero, finP, List.drop_succ_cons, List.drop_zero, List.take_zero, List.filterMap_nil]
          have hbe9 := below_then HBE.out hB9
          have hw9 := hB9.size
          have hr_ := HRW.out.grow hB9
          have q0 := heapN_cellj hr_ (k := 0) rfl
          have q1 := heapN_cellj hr_ (k := 1) rfl
          have y0 : w9.frozen? ⟨w.heap.size + 1, 0, none⟩ = false := by simp [World.frozen?, show w9.heap[w.heap.size + 1]? = _ from hr_]
          have y1 : w9.frozen? ⟨w.heap.size + 1, 1, none⟩ = false := by simp [World.frozen?, show w9.heap[w.heap.size + 1]? = _ from hr_]
          have HW9 := Lib.hid (((hbe9).setCell (p := ⟨w.heap.size + 1, 0, none⟩) (by dsimp only; omega) (.int .i64 (mulLo a1 a2 b1 b2))).setCell (p := ⟨w.heap.size + 1, 1, none⟩) (by dsimp only; omega) (.int .i64 (mulHi a1 a2 b1 b2)))
          have hs9 := cellsT_setN (o := 1) (u := .int .i64 (mulHi a1 a2 b1 b2)) (cellsT_setN (o := 0) (u := .int .i64 (mulLo a1 a2 b1 b2)) hr_)
          have x0 := heapN_cellj hs9 (k := 0) (u := .int .i64 (mulLo a1 a2 b1 b2)) rfl
          have x1 := heapN_cellj hs9 (k := 1) (u := .int .i64 (mulHi a1 a2 b1 b2)) rfl
          clear hs9 hr_
          go_wp2_with (fail)
          exact bodyPost_ret (v := .agg #[.int .i64 (mulLo a1 a2 b1 b2), .int .i64 (mulHi a1 a2 b1 b2)]) (by simp [results, Tryz.results28, go_sem, x0, x1]) rfl ⟨rfl, HW9.out⟩
        · as_aux_lemma =>
          rw [op_div] at hv1
          obtain ⟨rfl, rfl⟩ := Prod.mk.inj hv1
          have K := Lib.hid (fun g : Grown wr => (by exact r2div a1 a2 b1 b2 g.w av bv : Calls Tryz.prog 63 #[.agg #[.int .i64 a1, .int .i64 a2], .agg #[.int .i64 b1, .int .i64 b2]] g.w fun e w' => e = .returned (.agg #[.int .i64 (divLo a1 a2 b1 b2), .int .i64 (divHi a1 a2 b1 b2)]) ∧ Below g.w.heap.size g.w w'))
          clear hv1 ard brd
          go_wp2_with (fail)
          refine region_pred_n 7 (lk [(108, fun z_ _ => z_ = .slice (some ⟨ab, ao, none⟩) 2 c8), (109, fun z_ _ => z_ = .pointer (some ⟨ab, ao, none⟩)), (110, fun z_ _ => z_ = .agg #[.int .i64 a1, .int .i64 a2]), (111, fun z_ _ => z_ = .slice (some ⟨ab, ao, none⟩) 2 c8), (112, fun z_ _ => z_ = .pointer (some ⟨ab, ao + 1 * 2, none⟩)), (113, fun z_ _ => z_ = .agg #[.int .i64 b1, .int .i64 b2]), (114, fun z_ _ => z_ = .agg #[.int .i64 (divLo a1 a2 b1 b2), .int .i64 (divHi a1 a2 b1 b2)])]) (by kernel_rfl) (by kernel_rfl) (lk_steady _ ⟨steady_eq _, steady_eq _, steady_eq _, steady_eq _, steady_eq _, steady_eq _, steady_eq _, trivial⟩) ?_ ?_
          · refine ⟨?_, ?_, ?_, ?_, ?_, ?_, ?_, trivial⟩
            · refine ob_plain [8] rfl rfl fun aa g h => ?_
              have yy0 := seen_out (v := .slice (some ⟨ab, ao, none⟩) 2 c8) rfl rfl h.1
              have ee0 := getD_of yy0
              exact tupon_value (v := .slice (some ⟨ab, ao, none⟩) 2 c8) (by simp [go_sem, ee0, yy0]) (Below.refl _ _) rfl
            · refine ob_plain [108] rfl rfl fun aa g h => ?_
              obtain ⟨_, yy0, rfl⟩ := seen_in rfl h.1
              have ee0 := getD_of yy0
              exact tupon_value (v := .pointer (some ⟨ab, ao, none⟩)) (by simp [go_sem, ee0, yy0]) (Below.refl _ _) rfl
            · refine ob_plain [109] rfl rfl fun aa g h => ?_
              obtain ⟨_, yy0, rfl⟩ := seen_in rfl h.1
              have ee0 := getD_of yy0
              exact tupon_value (v := .agg #[.int .i64 a1, .int .i64 a2]) (by simp [go_sem, ee0, yy0, ag0 g, ag1 g]) (Below.refl _ _) rfl
            · refine ob_plain [8] rfl rfl fun aa g h => ?_
              have yy0 := seen_out (v := .slice (some ⟨ab, ao, none⟩) 2 c8) rfl rfl h.1
              have ee0 := getD_of yy0
              exact tupon_value (v := .slice (some ⟨ab, ao, none⟩) 2 c8) (by simp [go_sem, ee0, yy0]) (Below.refl _ _) rfl
            · refine ob_plain [111] rfl rfl fun aa g h => ?_
              obtain ⟨_, yy0, rfl⟩ := seen_in rfl h.1
              have ee0 := getD_of yy0
              exact tupon_value (v := .pointer (some ⟨ab, ao + 1 * 2, none⟩)) (by simp [go_sem, ee0, yy0]) (Below.refl _ _) rfl
            · refine ob_plain [112] rfl rfl fun aa g h => ?_
              obtain ⟨_, yy0, rfl⟩ := seen_in rfl h.1
              have ee0 := getD_of yy0
              exact tupon_value (v := .agg #[.int .i64 b1, .int .i64 b2]) (by simp [go_sem, ee0, yy0, bg0 g, bg1 g]) (Below.refl _ _) rfl
            · refine ob_plain [110, 113] rfl rfl fun aa g h => ?_
              obtain ⟨_, yy0, rfl⟩ := seen_in rfl h.1
              have ee0 := getD_of yy0
              obtain ⟨_, yy1, rfl⟩ := seen_in rfl h.2.1
              have ee1 := getD_of yy1
              refine tupon_enter (f := 63) (args := #[.agg #[.int .i64 a1, .int .i64 a2], .agg #[.int .i64 b1, .int .i64 b2]]) (by simp [go_sem, ee0, yy0, ee1, yy1]) rfl ?_
              exact (K.out g).mono fun e w' ⟨he, hB⟩ => ⟨_, he, hB, rfl⟩
          rintro w9 hB9 _ rfl _ rfl _ rfl _ rfl _ rfl _ rfl _ rfl
          simp only [Act.put, List.setIfInBounds_toArray, List.set_cons_succ, List.set_cons_zero, finP, List.drop_succ_cons, List.drop_zero, List.take_zero, List.filterMap_nil]
          have hbe9 := below_then HBE.out hB9
          have hw9 := hB9.size
          have hr_ := HRW.out.grow hB9
          have q0 := heapN_cellj hr_ (k := 0) rfl
          have q1 := heapN_cellj hr_ (k := 1) rfl
          have y0 : w9.frozen? ⟨w.heap.size + 1, 0, none⟩ = false := by simp [World.frozen?, show w9.heap[w.heap.size + 1]? = _ from hr_]
          have y1 : w9.frozen? ⟨w.heap.size + 1, 1, none⟩ = false := by simp [World.frozen?, show w9.heap[w.heap.size + 1]? = _ from hr_]
          have HW9 := Lib.hid (((hbe9).setCell (p := ⟨w.heap.size + 1, 0, none⟩) (by dsimp only; omega) (.int .i64 (divLo a1 a2 b1 b2))).setCell (p := ⟨w.heap.size + 1, 1, none⟩) (by dsimp only; omega) (.int .i64 (divHi a1 a2 b1 b2)))
          have hs9 := cellsT_setN (o := 1) (u := .int .i64 (divHi a1 a2 b1 b2)) (cellsT_setN (o := 0) (u := .int .i64 (divLo a1 a2 b1 b2)) hr_)
          have x0 := heapN_cellj hs9 (k := 0) (u := .int .i64 (divLo a1 a2 b1 b2)) rfl
          have x1 := heapN_cellj hs9 (k := 1) (u := .int .i64 (divHi a1 a2 b1 b2)) rfl
          clear hs9 hr_
          go_wp2_with (fail)
          exact bodyPost_ret (v := .agg #[.int .i64 (divLo a1 a2 b1 b2), .int .i64 (divHi a1 a2 b1 b2)]) (by simp [results, Tryz.results28, go_sem, x0, x1]) rfl ⟨rfl, HW9.out⟩
theorem reval_ok (N : Int) (X : List (Int × Int)) (xv : Value) (t1 t2 : Int) (hXN : (X.length : Int) = N) (hvx : ∀ p ∈ X, VI p.1 p.2) (hvt : VI t1 t2) : ∀ (T : Ex), EV N T → ∀ (v : Value) (w : World), NxC w v (pre T) → Vx w xv X → ∀ r1 r2 : Int, evT X (t1, t2) T = (r1, r2) → Calls Tryz.prog 28 #[v, xv, .agg #[.int .i64 t1, .int .i64 t2]] w fun e w' => e = .returned (.agg #[.int .i64 r1, .int .i64 r2]) ∧ Below w.heap.size w w' := by
  intro T
  induction T with
  | e0 x => exact fun h => reval_step N X xv t1 t2 hXN hvx hvt _ h (fun a ha => by simp [kids] at ha)
  | e1 x a ih => exact fun h => reval_step N X xv t1 t2 hXN hvx hvt _ h (fun a' ha => by
      obtain rfl : a' = a := by simpa [kids] using ha
      exact ih h.2)
  | e2 x a b ih ih' => exact fun h => reval_step N X xv t1 t2 hXN hvx hvt _ h (fun a' ha => by
      have ha2 : a' = a ∨ a' = b := by simpa [kids] using ha
      rcases ha2 with e | e
      · rw [e]; exact ih h.2.1
      · rw [e]; exact ih' h.2.2)
end Go.Proofs.YtbppfohcicepcaaGreat
