/-
  The law of optimized tapes.
-/
import Derived.Test.YtajddejeglhbhaaUC
import Derived.Test.YtajddejeglhbhaaQm
namespace Go.Proofs.Ytajddejeglhbhaa
open Go.ChangeShapes Go.WideShapes Go.ChangeAt Go.RowKit Go.Maps
set_option linter.unusedVariables false
set_option linter.unusedSimpArgs false
set_option maxRecDepth 100000
attribute [local irreducible] Calls
/-- A guarded operation whose guard falls. -/
theorem ob_gfalse {P : Program} {ops : Array Oper} {ds : List Tmp} {a0 : Act} {w0 : World} {Φ : Tmp → Value → World → Prop} {o : Oper} (ts : List Tmp) (j : Nat) (want : Bool) (u : Tmp) (hg : o.guard = some (j, want)) (hj : ((ops[j]?).bind (·.dst)) = some u) (ht : o.looksAt #[] = ts)
    (hin : inL u ds = true) (hu : ∀ v w, Φ u v w → v = .bool (!want)) (h0 : ∀ w, meets Φ o.dst undef w) : Obl P ops ds a0 w0 Φ o :=
  ob_guard ts j want u hg hj ht fun a g hs hsu => by
    refine ⟨fun hn => ?_, fun _ => h0 _⟩
    obtain ⟨v, hv, hp⟩ := seen_in hin hsu
    have e := hu v _ hp
    rw [hv, e] at hn
    injection hn with hn
    injection hn with hn
    cases want <;> cases hn
theorem raI_arn {op : Int} (h1 : 1 ≤ op) (h2 : op ≤ 10) : raI op = arI op := by
  unfold raI arI
  (repeat' split) <;> omega
/-- A row of Booleans of the call's own. -/
def BoR (B0 B N : Nat) (p : Nat → Bool) (W : World) : Prop := W.ownsRow B0 4 1 (.slice (some ⟨B, 0, none⟩) N N) N ((List.range N).map fun i => Value.bool (p i))
theorem BoR.grow {B0 B N : Nat} {p : Nat → Bool} {W W' : World} (h : BoR B0 B N p W) (hB : Below W.heap.size W W') : BoR B0 B N p W' := own_keptN h hB
theorem bo_zero (n : Nat) : (madeCells (Value.cells (.bool false)) (n * 1)).toList = (List.range n).map fun _ => Value.bool false := by
  refine List.ext_getElem? fun i => ?_
  by_cases hi : i < n
  · simp [madeCells, Value.cells, hi, Nat.mod_one]
  · simp [madeCells, Value.cells, hi]
theorem BoR.new (w : World) (N : Nat) (hN : N ≤ 4000) : BoR w.heap.size w.heap.size N (fun _ => false) (w.alloc (.cells (madeCells (Value.cells (.bool false)) (N * 1)) 4)) := by
  unfold BoR
  rw [← bo_zero]
  exact World.ownsRow_lit _ _ N (Nat.le_refl _) (by unfold maxLen; omega) (size_madeCells _ _)
theorem BoR.get {B0 B N : Nat} {p : Nat → Bool} {W : World} (h : BoR B0 B N p W) {k : Nat} (hk : k < N) : W.cell? ⟨B, k, none⟩ = some (.bool (p k)) ∧ W.frozen? ⟨B, k, none⟩ = false := by
  refine ⟨(h.cellAt k (by omega)).trans ?_, h.frozenAt _⟩
  rw [List.getElem?_map, List.getElem?_range hk]
  rfl
theorem BoR.put {B0 B N : Nat} {p : Nat → Bool} {W : World} (h : BoR B0 B N p W) {k : Nat} (hk : k < N) : BoR B0 B N (fun i => decide (i = k) || p i) (W.setCell ⟨B, k, none⟩ (.bool true)) := by
  have s1 := (h.stored k (.bool true)).1
  have e : ((List.range N).map fun i => Value.bool (p i)).set k (.bool true) = (List.range N).map fun i => Value.bool (decide (i = k) || p i) := by
    refine List.ext_getElem? fun i => ?_
    rw [List.getElem?_set, List.length_map, List.length_range, List.getElem?_map, List.getElem?_map]
    by_cases e : k = i
    · subst e
      rw [if_pos rfl, if_pos hk, List.getElem?_range hk]
      simp
    · rw [if_neg e]
      by_cases hi : i < N
      · rw [List.getElem?_range hi]
        simp [Ne.symm e]
      · rw [List.getElem?_eq_none (by rw [List.length_range]; omega)]
        rfl
  rw [e] at s1
  exact s1
theorem info_bool : (Try.prog.info? 4).map (fun i => (i.zero, i.size, i.bytes)) = some (some (.bool false), 1, 1) := by kernel_rfl
/-- The optimized tape, as one fact. -/
structure OptF (T : List Is) (O : List Int) (N : Nat) (D : List Is) (od : List Int) : Prop where
  eqn : optL T O = (D, od)
  val : tvB N D od = true
  fix : optL D od = (D, od)
  len : D.length ≤ T.length
  ol : od.length = N
  nd : D.Nodup
  used : ∀ k : Nat, k < D.length → (k : Int) ∈ od ∨ UsedI D k
theorem optF {N : Nat} {T : List Is} {O : List Int} (htv : tvB N T O = true) : OptF T O O.length (optL T O).1 (optL T O).2 := by
  obtain ⟨hn1, hn6, h400, hon, hvl, hout⟩ := tv_cases htv
  have hvl : VL N T := hvl
  have hev := opt_ev hvl hout
  have hle := opt_le hvl hout
  have hol : (optL T O).2.length = O.length := by unfold optL; rw [comp_len, List.length_map]
  have hv2 : VL N (optL T O).1 := compT_vl hev (fun k x hx => by simp at hx)
  refine ⟨rfl, ?_, opt_fix hev, hle, hol, compT_nodup _ List.nodup_nil, fun k hk => comp_used hev [] k (Nat.zero_le _) hk⟩
  rw [hon]
  refine tv_of hn1 hn6 (by omega) (m := O.length) hon hol hv2 (fun y hy => ?_)
  have := comp_out y hy
  unfold ixB
  rw [decide_eq_true this.1, show decide (y < ((optL T O).1.length : Int)) = true from decide_eq_true this.2]
  rfl
theorem nodup_ne {D : List Is} (h : D.Nodup) {i j : Nat} {x y : Is} (hx : D[i]? = some x) (hy : D[j]? = some y) (hij : j < i) : x.op ≠ y.op ∨ (x.op = y.op ∧ x.a ≠ y.a) ∨ (x.op = y.op ∧ x.a = y.a ∧ x.b ≠ y.b) ∨ (x.op = y.op ∧ x.a = y.a ∧ x.b = y.b ∧ ((x.lo == y.lo) && (x.hi == y.hi)) = false) := by
  by_cases h1 : x.op = y.op
  · by_cases h2 : x.a = y.a
    · by_cases h3 : x.b = y.b
      · refine .inr (.inr (.inr ⟨h1, h2, h3, ?_⟩))
        by_cases h4 : x.lo = y.lo
        · by_cases h5 : x.hi = y.hi
          · exfalso
            have e : x = y := by
              cases x; cases y
              simp only at h1 h2 h3 h4 h5
              subst h1; subst h2; subst h3; subst h4; subst h5
              rfl
            subst e
            have := nodup_at h hx hy
            omega
          · simp [h5]
        · simp [h4]
      · exact .inr (.inr (.inl ⟨h1, h2, h3⟩))
    · exact .inr (.inl ⟨h1, h2⟩)
  · exact .inl h1
theorem opt_cutN (n : Int) (vl vo : Value) (T D : List Is) (O od : List Int) (w : World) (hl : Ix w vl T) (ho : Px w vo O) (htv : tvB n T O = true) (hR : optL T O = (D, od)) :
    Calls Try.prog 19 #[.agg #[.int .i64 n, vl, vo]] w fun e w' => ∃ p q c d, e = .returned (.agg #[.int .i64 n, .slice p D.length c, .slice q od.length d]) ∧ Ix w' (.slice p D.length c) D ∧ Px w' (.slice q od.length d) od ∧ Below w.heap.size w w' := by
  refine (opt_at n vl vo T D O od w hl ho htv hR).mono ?_
  rintro e w' ⟨u, r, rfl, h1, h2, h3⟩
  obtain ⟨p, c, rfl⟩ := h1.cut
  obtain ⟨q, d, rfl⟩ := h2.cut
  exact ⟨p, q, c, d, rfl, h1, h2, h3⟩
theorem rvalid_at (n : Int) (vl vo : Value) (L : List Is) (out : List Int) (b : Bool) (w : World) (hl : Ix w vl L) (ho : Px w vo out) (hR : tvB n L out = b) :
    Calls Try.prog 28 #[.agg #[.int .i64 n, vl, vo]] w fun e w' => e = .returned (.bool b) ∧ Below w.heap.size w w' := by
  subst hR
  exact rvalid8_ok n vl vo L out w hl ho
set_option maxHeartbeats 64000000 in
theorem tnorm (w : World) (vL vO vX : Value) (n0 lo hi : Int) (Lr : List Is) (outr : List Int) (Xr : List (Int × Int)) (hL : Ix w vL Lr ∧ ∀ x ∈ Lr, IW x) (hO : Px w vO outr ∧ ∀ x ∈ outr, W64 x) (hX : Vx w vX Xr ∧ ∀ q ∈ Xr, W64 q.1 ∧ W64 q.2) (hn : W64 n0) (hlo : W64 lo) (hhi : W64 hi) :
    Calls Try.prog 6 #[.agg #[.int .i64 n0, vL, vO, vX, .int .i64 lo, .int .i64 hi]] w fun e w' => e = .returned (.bool true) ∧ Below w.heap.size w w' := by
  obtain ⟨pl, cl, rfl⟩ := hL.1.cut
  obtain ⟨po, co, rfl⟩ := hO.1.cut
  obtain ⟨px, cx, rfl⟩ := hX.1.cut
  have hE : Below w.heap.size w (w.alloc (.cells #[.int .i64 n0, .slice pl Lr.length cl, .slice po outr.length co, .slice px Xr.length cx, .int .i64 lo, .int .i64 hi] 30)) := (Below.refl _ _).alloc (Nat.le_refl _) _
  have HQ := Lib.hid (show Blk (w.alloc (.cells #[.int .i64 n0, .slice pl Lr.length cl, .slice po outr.length co, .slice px Xr.length cx, .int .i64 lo, .int .i64 hi] 30)) w.heap.size (.cells #[.int .i64 n0, .slice pl Lr.length cl, .slice po outr.length co, .slice px Xr.length cx, .int .i64 lo, .int .i64 hi] 30) from World.alloc_heap_new w _)
  have HL := Lib.hid (hL.1.grow hE)
  have HO := Lib.hid (hO.1.grow hE)
  have HW := Lib.hid hE
  clear hE hL hO hX hn hlo hhi
  go_enter Try.func6, Try.ntmps6
  go_wp2_with (fail)
  refine (sanity8 _).mono ?_
  rintro e w1 ⟨rfl, hB⟩
  have HQ := Lib.hid (HQ.out.grow hB)
  have HL := Lib.hid (HL.out.grow hB)
  have HO := Lib.hid (HO.out.grow hB)
  have HW := Lib.hid (below_then HW.out hB)
  clear hB
  have q0 := heapN_cellj HQ.out (k := 0) rfl
  have q1 := heapN_cellj HQ.out (k := 1) rfl
  have q2 := heapN_cellj HQ.out (k := 2) rfl
  go_wp2_with (fail)
  refine (made8_ok n0 _ _ Lr outr 40 _ HL.out HO.out (by decide) (by decide)).mono ?_
  rintro e w2 ⟨N, T, O, u, r, rfl, hu, hr, htv, hN3, hT1, hT40, hB⟩
  have HTV := Lib.hid htv
  obtain ⟨hn1, hn6, h400, hon, hvl, hout⟩ := tv_cases htv
  obtain ⟨m, hm⟩ : ∃ m, O.length = m := ⟨_, rfl⟩
  have hNm : N = m := by omega
  subst hNm
  have hof := optF htv
  rw [hm] at hof
  have hut := Rx.own encI_len hu (by unfold maxLen; omega)
  have hro := Rx.own (enc := enc1) (fun _ => rfl) hr (by unfold maxLen; omega)
  obtain ⟨pu, cu, rfl⟩ := hut.cut
  obtain ⟨pr, cr', hrr⟩ := hro.cut
  rw [hm] at hrr
  subst hrr
  have hS : Below w2.heap.size w2 (w2.alloc (.cells #[.int .i64 N, .slice pu T.length cu, .slice pr N cr'] 25)) := (Below.refl _ _).alloc (Nat.le_refl _) _
  have HC := Lib.hid (show Blk (w2.alloc (.cells #[.int .i64 N, .slice pu T.length cu, .slice pr N cr'] 25)) w2.heap.size (.cells #[.int .i64 N, .slice pu T.length cu, .slice pr N cr'] 25) from World.alloc_heap_new w2 _)
  have HUT := Lib.hid (hut.grow hS)
  have HRO := Lib.hid (hro.grow hS)
  have HW := Lib.hid (below_then (below_then HW.out hB) hS)
  have hT := hT40
  obtain ⟨⟨D, od⟩, hD⟩ : ∃ R, optL T O = R := ⟨_, rfl⟩
  rw [hD] at hof
  dsimp only at hof
  have HOF := Lib.hid hof
  have hdl := hof.len
  have hol := hof.ol
  have HOL := Lib.hid hol
  clear hB hu hr htv q0 q1 q2 HQ HL HO hon hm h400 hvl hout hut hro hS hof hD hol hT40
  go_wp2_with (fail)
  refine (opt_cutN N _ _ T D O od _ HUT.out HRO.out HTV.out HOF.out.eqn).mono ?_
  rintro e w3 ⟨p1, p2, c1, c2, rfl, hid, hpd, hB⟩
  rw [HOL.out] at hpd ⊢
  have hS : Below w3.heap.size w3 (w3.alloc (.cells #[.int .i64 N, .slice p1 D.length c1, .slice p2 N c2] 25)) := (Below.refl _ _).alloc (Nat.le_refl _) _
  have HDB := Lib.hid (show Blk (w3.alloc (.cells #[.int .i64 N, .slice p1 D.length c1, .slice p2 N c2] 25)) w3.heap.size (.cells #[.int .i64 N, .slice p1 D.length c1, .slice p2 N c2] 25) from World.alloc_heap_new w3 _)
  have HC := Lib.hid ((HC.out.grow hB).grow hS)
  have HID := Lib.hid (hid.grow hS)
  have HPD := Lib.hid (hpd.grow hS)
  have HW := Lib.hid (below_then (below_then HW.out hB) hS)
  clear hB hS hid hpd HUT HRO HTV
  go_wp2_with (fail)
  generalize hWc : World.alloc w3 _ = W5 at *
  clear hWc
  have k1 := fun g : Grown W5 => heapN_cellj (HC.out.grow g.h) (k := 1) rfl
  have d0 := fun g : Grown W5 => heapN_cellj (HDB.out.grow g.h) (k := 0) rfl
  have d1 := fun g : Grown W5 => heapN_cellj (HDB.out.grow g.h) (k := 1) rfl
  have d2 := fun g : Grown W5 => heapN_cellj (HDB.out.grow g.h) (k := 2) rfl
  have i7 : ¬ ((T.length : Int) < D.length) := by omega
  refine region_pred (lk [(17, fun z_ _ => z_ = .agg #[.int .i64 N, .slice p1 D.length c1, .slice p2 N c2]), (18, fun z_ _ => z_ = .bool true), (19, fun z_ _ => z_ = .bool false), (20, fun z_ _ => z_ = .bool false), (21, fun z_ _ => z_ = .agg #[.int .i64 N, .slice p1 D.length c1, .slice p2 N c2]), (22, fun z_ _ => z_ = .bool true), (23, fun z_ _ => z_ = .bool false), (24, fun z_ _ => z_ = .bool false), (25, fun z_ _ => z_ = .bool false), (26, fun z_ _ => z_ = .pointer (some ⟨w3.heap.size, 1, none⟩)), (27, fun z_ _ => z_ = .slice p1 D.length c1), (28, fun z_ _ => z_ = .int .i64 D.length), (29, fun z_ _ => z_ = .pointer (some ⟨w2.heap.size, 1, none⟩)), (30, fun z_ _ => z_ = .slice pu T.length cu), (31, fun z_ _ => z_ = .int .i64 T.length), (32, fun z_ _ => z_ = .bool false), (33, fun z_ _ => z_ = .bool false), (34, fun z_ _ => z_ = .bool false), (35, fun z_ _ => z_ = .agg #[.int .i64 N, .slice p1 D.length c1, .slice p2 N c2]), (36, fun z_ w' => ∃ p_ q_ c_ d_, z_ = .agg #[.int .i64 N, .slice p_ D.length c_, .slice q_ od.length d_] ∧ Ix w' (.slice p_ D.length c_) D ∧ Px w' (.slice q_ od.length d_) od), (37, fun z_ _ => z_ = .agg #[.int .i64 N, .slice p1 D.length c1, .slice p2 N c2]), (38, fun z_ _ => z_ = .bool true), (39, fun z_ _ => z_ = .bool false), (40, fun z_ _ => z_ = .bool false)]) (by kernel_rfl) (by kernel_rfl) (lk_steady _ ⟨steady_eq _, steady_eq _, steady_eq _, steady_eq _, steady_eq _, steady_eq _, steady_eq _, steady_eq _, steady_eq _, steady_eq _, steady_eq _, steady_eq _, steady_eq _, steady_eq _, steady_eq _, steady_eq _, steady_eq _, steady_eq _, steady_eq _, fun u w1 w2 hb ⟨p, q, c, d, e, h1, h2⟩ => ⟨p, q, c, d, e, h1.grow hb, h2.grow hb⟩, steady_eq _, steady_eq _, steady_eq _, steady_eq _, trivial⟩) ?_ ?_
  · refine ⟨?_, ?_, ?_, ?_, ?_, ?_, ?_, ?_, ?_, ?_, ?_, ?_, ?_, ?_, ?_, ?_, ?_, ?_, ?_, ?_, ?_, ?_, ?_, ?_, trivial⟩
    · refine ob_plain [5] rfl rfl fun aa g h => ?_
      have yy0 := seen_out (v := .pointer (some ⟨w3.heap.size, 0, none⟩)) rfl rfl h.1
      have ee0 := getD_of yy0
      exact tupon_value (v := .agg #[.int .i64 N, .slice p1 D.length c1, .slice p2 N c2]) (by simp [go_sem, ee0, yy0, d0 g, d1 g, d2 g]) (Below.refl _ _) rfl
    · refine ob_plain [17] rfl rfl fun aa g h => ?_
      obtain ⟨_, yy0, rfl⟩ := seen_in rfl h.1
      have ee0 := getD_of yy0
      refine tupon_enter (f := 27) (args := #[.agg #[.int .i64 N, .slice p1 D.length c1, .slice p2 N c2]]) (by simp [go_sem, ee0, yy0]) rfl ?_
      exact (valid_at N _ _ D od true g.w (HID.out.grow g.h) (HPD.out.grow g.h) HOF.out.val).mono fun e w' ⟨he, hB⟩ => ⟨_, he, hB, rfl⟩
    · refine ob_plain [18] rfl rfl fun aa g h => ?_
      obtain ⟨_, yy0, rfl⟩ := seen_in rfl h.1
      have ee0 := getD_of yy0
      exact tupon_value (v := .bool false) (by simp [go_sem, ee0, yy0]) (Below.refl _ _) rfl
    · refine ob_plain [19] rfl rfl fun aa g h => ?_
      obtain ⟨_, yy0, rfl⟩ := seen_in rfl h.1
      have ee0 := getD_of yy0
      exact tupon_value (v := .bool false) (by simp [go_sem, ee0, yy0]) (Below.refl _ _) rfl
    · refine ob_gtrue [5] _ false 20 rfl rfl rfl rfl (fun v w h => h) fun aa g h => ?_
      have yy0 := seen_out (v := .pointer (some ⟨w3.heap.size, 0, none⟩)) rfl rfl h.1
      have ee0 := getD_of yy0
      exact tupon_value (v := .agg #[.int .i64 N, .slice p1 D.length c1, .slice p2 N c2]) (by simp [go_sem, ee0, yy0, d0 g, d1 g, d2 g]) (Below.refl _ _) rfl
    · refine ob_gtrue [21] _ false 20 rfl rfl rfl rfl (fun v w h => h) fun aa g h => ?_
      obtain ⟨_, yy0, rfl⟩ := seen_in rfl h.1
      have ee0 := getD_of yy0
      refine tupon_enter (f := 28) (args := #[.agg #[.int .i64 N, .slice p1 D.length c1, .slice p2 N c2]]) (by simp [go_sem, ee0, yy0]) rfl ?_
      exact (rvalid_at N _ _ D od true g.w (HID.out.grow g.h) (HPD.out.grow g.h) HOF.out.val).mono fun e w' ⟨he, hB⟩ => ⟨_, he, hB, rfl⟩
    · refine ob_gtrue [22] _ false 20 rfl rfl rfl rfl (fun v w h => h) fun aa g h => ?_
      obtain ⟨_, yy0, rfl⟩ := seen_in rfl h.1
      have ee0 := getD_of yy0
      exact tupon_value (v := .bool false) (by simp [go_sem, ee0, yy0]) (Below.refl _ _) rfl
    · refine ob_plain [20, 23] rfl rfl fun aa g h => ?_
      obtain ⟨_, yy0, rfl⟩ := seen_in rfl h.1
      have ee0 := getD_of yy0
      obtain ⟨_, yy1, rfl⟩ := seen_in rfl h.2.1
      have ee1 := getD_of yy1
      exact tupon_value (v := .bool false) (by simp [go_sem, ee0, yy0, ee1, yy1]) (Below.refl _ _) rfl
    · refine ob_plain [24] rfl rfl fun aa g h => ?_
      obtain ⟨_, yy0, rfl⟩ := seen_in rfl h.1
      have ee0 := getD_of yy0
      exact tupon_value (v := .bool false) (by simp [go_sem, ee0, yy0]) (Below.refl _ _) rfl
    · refine ob_gtrue [5] _ false 25 rfl rfl rfl rfl (fun v w h => h) fun aa g h => ?_
      have yy0 := seen_out (v := .pointer (some ⟨w3.heap.size, 0, none⟩)) rfl rfl h.1
      have ee0 := getD_of yy0
      exact tupon_value (v := .pointer (some ⟨w3.heap.size, 1, none⟩)) (by simp [go_sem, ee0, yy0]) (Below.refl _ _) rfl
    · refine ob_gtrue [26] _ false 25 rfl rfl rfl rfl (fun v w h => h) fun aa g h => ?_
      obtain ⟨_, yy0, rfl⟩ := seen_in rfl h.1
      have ee0 := getD_of yy0
      exact tupon_value (v := .slice p1 D.length c1) (by simp [go_sem, ee0, yy0, d1 g]) (Below.refl _ _) rfl
    · refine ob_gtrue [27] _ false 25 rfl rfl rfl rfl (fun v w h => h) fun aa g h => ?_
      obtain ⟨_, yy0, rfl⟩ := seen_in rfl h.1
      have ee0 := getD_of yy0
      exact tupon_value (v := .int .i64 D.length) (by simp [go_sem, ee0, yy0]) (Below.refl _ _) rfl
    · refine ob_gtrue [4] _ false 25 rfl rfl rfl rfl (fun v w h => h) fun aa g h => ?_
      have yy0 := seen_out (v := .pointer (some ⟨w2.heap.size, 0, none⟩)) rfl rfl h.1
      have ee0 := getD_of yy0
      exact tupon_value (v := .pointer (some ⟨w2.heap.size, 1, none⟩)) (by simp [go_sem, ee0, yy0]) (Below.refl _ _) rfl
    · refine ob_gtrue [29] _ false 25 rfl rfl rfl rfl (fun v w h => h) fun aa g h => ?_
      obtain ⟨_, yy0, rfl⟩ := seen_in rfl h.1
      have ee0 := getD_of yy0
      exact tupon_value (v := .slice pu T.length cu) (by simp [go_sem, ee0, yy0, k1 g]) (Below.refl _ _) rfl
    · refine ob_gtrue [30] _ false 25 rfl rfl rfl rfl (fun v w h => h) fun aa g h => ?_
      obtain ⟨_, yy0, rfl⟩ := seen_in rfl h.1
      have ee0 := getD_of yy0
      exact tupon_value (v := .int .i64 T.length) (by simp [go_sem, ee0, yy0]) (Below.refl _ _) rfl
    · refine ob_gtrue [28, 31] _ false 25 rfl rfl rfl rfl (fun v w h => h) fun aa g h => ?_
      obtain ⟨_, yy0, rfl⟩ := seen_in rfl h.1
      have ee0 := getD_of yy0
      obtain ⟨_, yy1, rfl⟩ := seen_in rfl h.2.1
      have ee1 := getD_of yy1
      exact tupon_value (v := .bool false) (by simp [go_sem, ee0, yy0, ee1, yy1, i7]) (Below.refl _ _) rfl
    · refine ob_plain [25, 32] rfl rfl fun aa g h => ?_
      obtain ⟨_, yy0, rfl⟩ := seen_in rfl h.1
      have ee0 := getD_of yy0
      obtain ⟨_, yy1, rfl⟩ := seen_in rfl h.2.1
      have ee1 := getD_of yy1
      exact tupon_value (v := .bool false) (by simp [go_sem, ee0, yy0, ee1, yy1]) (Below.refl _ _) rfl
    · refine ob_plain [33] rfl rfl fun aa g h => ?_
      obtain ⟨_, yy0, rfl⟩ := seen_in rfl h.1
      have ee0 := getD_of yy0
      exact tupon_value (v := .bool false) (by simp [go_sem, ee0, yy0]) (Below.refl _ _) rfl
    · refine ob_gtrue [5] _ false 34 rfl rfl rfl rfl (fun v w h => h) fun aa g h => ?_
      have yy0 := seen_out (v := .pointer (some ⟨w3.heap.size, 0, none⟩)) rfl rfl h.1
      have ee0 := getD_of yy0
      exact tupon_value (v := .agg #[.int .i64 N, .slice p1 D.length c1, .slice p2 N c2]) (by simp [go_sem, ee0, yy0, d0 g, d1 g, d2 g]) (Below.refl _ _) rfl
    · refine ob_gtrue [35] _ false 34 rfl rfl rfl rfl (fun v w h => h) fun aa g h => ?_
      obtain ⟨_, yy0, rfl⟩ := seen_in rfl h.1
      have ee0 := getD_of yy0
      refine tupon_enter (f := 19) (args := #[.agg #[.int .i64 N, .slice p1 D.length c1, .slice p2 N c2]]) (by simp [go_sem, ee0, yy0]) rfl ?_
      exact (opt_cutN N _ _ D D od od g.w (HID.out.grow g.h) (HPD.out.grow g.h) HOF.out.val HOF.out.fix).mono fun e w' ⟨p, q, c, d, he, hi, hp, hB⟩ => ⟨_, he, hB, ⟨p, q, c, d, rfl, hi, hp⟩⟩
    · refine ob_gtrue [5] _ false 34 rfl rfl rfl rfl (fun v w h => h) fun aa g h => ?_
      have yy0 := seen_out (v := .pointer (some ⟨w3.heap.size, 0, none⟩)) rfl rfl h.1
      have ee0 := getD_of yy0
      exact tupon_value (v := .agg #[.int .i64 N, .slice p1 D.length c1, .slice p2 N c2]) (by simp [go_sem, ee0, yy0, d0 g, d1 g, d2 g]) (Below.refl _ _) rfl
    · refine ob_gtrue [36, 37] _ false 34 rfl rfl rfl rfl (fun v w h => h) fun aa g h => ?_
      obtain ⟨_, yy0, ⟨p36, q36, c36, d36, rfl, hi36, hp36⟩⟩ := seen_in rfl h.1
      have ee0 := getD_of yy0
      obtain ⟨_, yy1, rfl⟩ := seen_in rfl h.2.1
      have ee1 := getD_of yy1
      refine tupon_enter (f := 26) (args := #[.agg #[.int .i64 N, .slice p36 D.length c36, .slice q36 od.length d36], .agg #[.int .i64 N, .slice p1 D.length c1, .slice p2 N c2]]) (by simp [go_sem, ee0, yy0, ee1, yy1]) rfl ?_
      exact (tsame_ok N _ _ _ _ D od g.w hi36 hp36 (HID.out.grow g.h) (HPD.out.grow g.h)).mono fun e w' ⟨he, hB⟩ => ⟨_, he, hB, rfl⟩
    · refine ob_gtrue [38] _ false 34 rfl rfl rfl rfl (fun v w h => h) fun aa g h => ?_
      obtain ⟨_, yy0, rfl⟩ := seen_in rfl h.1
      have ee0 := getD_of yy0
      exact tupon_value (v := .bool false) (by simp [go_sem, ee0, yy0]) (Below.refl _ _) rfl
    · refine ob_plain [34, 39] rfl rfl fun aa g h => ?_
      obtain ⟨_, yy0, rfl⟩ := seen_in rfl h.1
      have ee0 := getD_of yy0
      obtain ⟨_, yy1, rfl⟩ := seen_in rfl h.2.1
      have ee1 := getD_of yy1
      exact tupon_value (v := .bool false) (by simp [go_sem, ee0, yy0, ee1, yy1]) (Below.refl _ _) rfl
  rintro w6 hB _ rfl _ rfl _ rfl _ rfl _ rfl _ rfl _ rfl _ rfl _ rfl _ rfl _ rfl _ rfl _ rfl _ rfl _ rfl _ rfl _ rfl _ rfl _ rfl _ ⟨p36, q36, c36, d36, rfl, hi36, hp36⟩ _ rfl _ rfl _ rfl _ rfl
  simp only [Act.put, List.setIfInBounds_toArray, List.set_cons_succ, List.set_cons_zero, List.filterMap_nil, finP]
  have HDB := Lib.hid (HDB.out.grow hB)
  have HID := Lib.hid (HID.out.grow hB)
  have HPD := Lib.hid (HPD.out.grow hB)
  have HW := Lib.hid (below_then HW.out hB)
  clear hB k1 d0 d1 d2 hi36 hp36 HC i7
  obtain ⟨i0, hi0, hz0, hz1, hz2⟩ := info_parts info_bool
  obtain ⟨w7, hw7⟩ : ∃ w7, w6.alloc (.cells (madeCells (Value.cells (.bool false)) (D.length * 1)) 4) = w7 := ⟨_, rfl⟩
  have qmk : (Instr.makeSlice 57 (.int .i64 (D.length : Int)) (.int .i64 (D.length : Int))).run Try.prog w6 = .ok (.slice (some ⟨w6.heap.size, 0, none⟩) D.length D.length) w7 := by
    have := run_make (P := Try.prog) w6 57 4 i0 _ Try.underlying57 hi0 hz0 .i64 .i64 D.length D.length (by omega) (Int.le_refl _) (by rw [hz2]; omega) (by omega)
    rw [hz1] at this
    rw [← hw7]
    simpa using this
  have HR7 := Lib.hid (BoR.new w6 D.length (by omega))
  rw [hw7] at HR7
  have HB7 := Lib.hid (show Below w6.heap.size w6 w7 by rw [← hw7]; exact (Below.refl _ _).alloc (Nat.le_refl _) _)
  have x1 := heapN_cellj HDB.out (k := 1) rfl
  clear hw7 hi0 hz0 hz1 hz2
  go_wp2_with (fail)
  go_loopw [7] (fun i wr => ∃ (k : Nat) (p : Nat → Bool), i = .int .i64 k ∧ k ≤ N ∧ Hid (BoR w6.heap.size w6.heap.size D.length p wr) ∧ Hid (∀ j y, j < k → od[j]? = some y → p y.toNat = true) ∧ Hid (Below w6.heap.size w6 wr)) (fun i _ => N - (intOf i).toNat)
  case atStart => exact ⟨0, _, rfl, Nat.zero_le _, HR7, Lib.hid (fun j y h => by omega), HB7⟩
  case round =>
    clear HR7 HB7 x1 qmk i0
    obtain ⟨k, p, rfl, hk, HR, HOU, HB⟩ := hrel
    have x2 := heapN_cellj (HDB.out.grow HB.out) (k := 2) rfl
    have x1 := heapN_cellj (HDB.out.grow HB.out) (k := 1) rfl
    by_cases hlt : k < N
    · have i2 : (k : Int) < N := by omega
      obtain ⟨y, hy⟩ : ∃ y, od[k]? = some y := ⟨_, List.getElem?_eq_getElem (by rw [HOL.out]; exact hlt)⟩
      have hyb := (tv_cases HOF.out.val).2.2.2.2.2 y (List.mem_of_getElem? hy)
      obtain ⟨m, rfl⟩ : ∃ m : Nat, y = m := ⟨y.toNat, by omega⟩
      have hmD : m < D.length := by omega
      have i4 : (m : Int) < D.length := by omega
      obtain ⟨bo, oo, hpo, hbo, rdo⟩ := px_rd HPD.out hy
      subst hpo
      have r0 := rdo ⟨wr, HB.out⟩
      dsimp only at r0
      obtain ⟨c0, z0⟩ := HR.out.get hmD
      have HPUT := Lib.hid (HR.out.put hmD)
      have HY := Lib.hid hy
      clear hy rdo hyb
      go_wp2_with (fail)
      go_roundw
      case rel => exact ⟨k + 1, _, by go_num, by omega, HPUT, Lib.hid (fun j z hj hz => by
        by_cases e : j = k
        · subst e
          rw [HY.out] at hz
          cases hz
          simp
        · rw [HOU.out j z (by omega) hz, Bool.or_true]), Lib.hid (HB.out.setCell (p := ⟨w6.heap.size, m, none⟩) (Nat.le_refl _) _)⟩
      case measure => simp [intOf]; omega
    · obtain rfl : N = k := by omega
      have i2 : ¬ (N : Int) < N := by omega
      go_wp2_with (fail)
      have HO2 : Hid (∀ y, (y : Int) ∈ od → p y.toNat = true) := Lib.hid (fun y hy => by
        obtain ⟨j, hj⟩ := List.getElem?_of_mem hy
        exact HOU.out j y (by have := (List.getElem?_eq_some_iff.1 hj).1; have := HOL.out; omega) hj)
      clear HOU x1 x2 i2
      go_loopw [8] (fun i wr => ∃ (k : Nat) (p : Nat → Bool), i = .int .i64 k ∧ k ≤ D.length ∧ Hid (BoR w6.heap.size w6.heap.size D.length p wr) ∧ Hid (∀ y, (y : Int) ∈ od → p y.toNat = true) ∧ Hid (∀ j x, j < k → D[j]? = some x → ∀ y ∈ opsI x, p y.toNat = true) ∧ Hid (Below w6.heap.size w6 wr)) (fun i _ => D.length - (intOf i).toNat)
      case atStart => exact ⟨0, p, rfl, Nat.zero_le _, HR, HO2, Lib.hid (fun j x h => by omega), HB⟩
      case round =>
        clear HR HO2 HB
        clear p
        obtain ⟨k, p, rfl, hk, HR, HO2, HU, HB⟩ := hrel
        have x1 := heapN_cellj (HDB.out.grow HB.out) (k := 1) rfl
        by_cases hlt : k < D.length
        · have i2 : (k : Int) < D.length := by omega
          obtain ⟨⟨op, a, b, lo', hi'⟩, hx⟩ : ∃ x, D[k]? = some x := ⟨_, List.getElem?_eq_getElem hlt⟩
          obtain ⟨bl, ol, rfl, hbl, rdl⟩ := is_rd HID.out hx
          have hvx := (tv_cases HOF.out.val).2.2.2.2.1 k _ hx
          have hcs := vin_cases hvx
          have hoc := ops_cases hvx
          dsimp only at hcs hoc
          have hopb : 1 ≤ op ∧ op ≤ 10 := by omega
          have hra := raI_arn hopb.1 hopb.2
          have HRA := Lib.hid hra
          have KA := Lib.hid (fun w => rarity_ok op w)
          have HX := Lib.hid hx
          have HOC := Lib.hid hoc
          have HRD := Lib.hid rdl
          clear rdl hx hvx hcs hoc hra hopb
          go_wp2_with (fail)
          go_loopw [9] (fun i wr => ∃ j : Nat, i = .int .i64 j ∧ j ≤ k ∧ Hid (BoR w6.heap.size w6.heap.size D.length p wr) ∧ Hid (Below w6.heap.size w6 wr)) (fun i _ => k - (intOf i).toNat)
          case atStart => exact ⟨0, rfl, Nat.zero_le _, HR, HB⟩
          case round =>
            clear HR HB x1
            obtain ⟨j, rfl, hj, HR, HB⟩ := hrel
            by_cases hjk : j < k
            · have i3 : (j : Int) < k := by omega
              have i4 : (j : Int) < D.length := by omega
              obtain ⟨⟨op2, a2, b2, lo2, hi2⟩, hx2⟩ : ∃ x, D[j]? = some x := ⟨_, List.getElem?_eq_getElem (by omega)⟩
              have hne := nodup_ne HOF.out.nd HX.out hx2 hjk
              dsimp only at hne
              obtain ⟨bl2, ol2, hpe, hbl2, rdl2⟩ := is_rd HID.out hx2
              cases hpe
              have d1 := fun g : Grown wr => heapN_cellj (HDB.out.grow (HB.out.trans (g.h.mono HB.out.size))) (k := 1) rfl
              have fa0 := fun g : Grown wr => (HRD.out ⟨g.w, HB.out.trans (g.h.mono HB.out.size)⟩).1
              have fa1 := fun g : Grown wr => (HRD.out ⟨g.w, HB.out.trans (g.h.mono HB.out.size)⟩).2.1
              have fa2 := fun g : Grown wr => (HRD.out ⟨g.w, HB.out.trans (g.h.mono HB.out.size)⟩).2.2.1
              have fa3 := fun g : Grown wr => (HRD.out ⟨g.w, HB.out.trans (g.h.mono HB.out.size)⟩).2.2.2.1
              have fa4 := fun g : Grown wr => (HRD.out ⟨g.w, HB.out.trans (g.h.mono HB.out.size)⟩).2.2.2.2
              dsimp only at fa0 fa1 fa2 fa3 fa4
              have fb0 := fun g : Grown wr => (rdl2 ⟨g.w, HB.out.trans (g.h.mono HB.out.size)⟩).1
              have fb1 := fun g : Grown wr => (rdl2 ⟨g.w, HB.out.trans (g.h.mono HB.out.size)⟩).2.1
              have fb2 := fun g : Grown wr => (rdl2 ⟨g.w, HB.out.trans (g.h.mono HB.out.size)⟩).2.2.1
              have fb3 := fun g : Grown wr => (rdl2 ⟨g.w, HB.out.trans (g.h.mono HB.out.size)⟩).2.2.2.1
              have fb4 := fun g : Grown wr => (rdl2 ⟨g.w, HB.out.trans (g.h.mono HB.out.size)⟩).2.2.2.2
              dsimp only at fb0 fb1 fb2 fb3 fb4
              have KS := Lib.hid (fun w => r2same lo' hi' lo2 hi2 w)
              clear rdl2 hx2
              go_wp2_with (fail)
              rcases hne with hne | hne | hne | hne
              ·
                have i9 : (op == op2) = false := by simpa using hne
                clear hne
                refine region_pred (lk [(71, fun z_ _ => z_ = .pointer (some ⟨w3.heap.size, 1, none⟩)), (72, fun z_ _ => z_ = .slice (some ⟨bl, ol, none⟩) D.length c1), (73, fun z_ _ => z_ = .int .i64 (k : Int)), (74, fun z_ _ => z_ = .pointer (some ⟨bl, ol + k * 5, none⟩)), (75, fun z_ _ => z_ = .pointer (some ⟨bl, ol + k * 5, none⟩)), (76, fun z_ _ => z_ = .int .i64 op), (77, fun z_ _ => z_ = .pointer (some ⟨w3.heap.size, 1, none⟩)), (78, fun z_ _ => z_ = .slice (some ⟨bl, ol, none⟩) D.length c1), (79, fun z_ _ => z_ = .int .i64 (j : Int)), (80, fun z_ _ => z_ = .pointer (some ⟨bl, ol + j * 5, none⟩)), (81, fun z_ _ => z_ = .pointer (some ⟨bl, ol + j * 5, none⟩)), (82, fun z_ _ => z_ = .int .i64 op2), (83, fun z_ _ => z_ = .bool false), (84, fun z_ _ => z_ = .bool false), (85, fun z_ _ => z_ = undef), (86, fun z_ _ => z_ = undef), (87, fun z_ _ => z_ = undef), (88, fun z_ _ => z_ = undef), (89, fun z_ _ => z_ = undef), (90, fun z_ _ => z_ = undef), (91, fun z_ _ => z_ = undef), (92, fun z_ _ => z_ = undef), (93, fun z_ _ => z_ = undef), (94, fun z_ _ => z_ = undef), (95, fun z_ _ => z_ = undef), (96, fun z_ _ => z_ = undef), (97, fun z_ _ => z_ = undef), (98, fun z_ _ => z_ = .bool false), (99, fun z_ _ => z_ = .bool false), (100, fun z_ _ => z_ = undef), (101, fun z_ _ => z_ = undef), (102, fun z_ _ => z_ = undef), (103, fun z_ _ => z_ = undef), (104, fun z_ _ => z_ = undef), (105, fun z_ _ => z_ = undef), (106, fun z_ _ => z_ = undef), (107, fun z_ _ => z_ = undef), (108, fun z_ _ => z_ = undef), (109, fun z_ _ => z_ = undef), (110, fun z_ _ => z_ = undef), (111, fun z_ _ => z_ = undef), (112, fun z_ _ => z_ = undef), (113, fun z_ _ => z_ = .bool false), (114, fun z_ _ => z_ = .bool false), (115, fun z_ _ => z_ = undef), (116, fun z_ _ => z_ = undef), (117, fun z_ _ => z_ = undef), (118, fun z_ _ => z_ = undef), (119, fun z_ _ => z_ = undef), (120, fun z_ _ => z_ = undef), (121, fun z_ _ => z_ = undef), (122, fun z_ _ => z_ = undef), (123, fun z_ _ => z_ = undef), (124, fun z_ _ => z_ = undef), (125, fun z_ _ => z_ = undef), (126, fun z_ _ => z_ = undef), (127, fun z_ _ => z_ = undef), (128, fun z_ _ => z_ = .bool false)]) (by kernel_rfl) (by kernel_rfl) (lk_steady _ ⟨steady_eq _, steady_eq _, steady_eq _, steady_eq _, steady_eq _, steady_eq _, steady_eq _, steady_eq _, steady_eq _, steady_eq _, steady_eq _, steady_eq _, steady_eq _, steady_eq _, steady_eq _, steady_eq _, steady_eq _, steady_eq _, steady_eq _, steady_eq _, steady_eq _, steady_eq _, steady_eq _, steady_eq _, steady_eq _, steady_eq _, steady_eq _, steady_eq _, steady_eq _, steady_eq _, steady_eq _, steady_eq _, steady_eq _, steady_eq _, steady_eq _, steady_eq _, steady_eq _, steady_eq _, steady_eq _, steady_eq _, steady_eq _, steady_eq _, steady_eq _, steady_eq _, steady_eq _, steady_eq _, steady_eq _, steady_eq _, steady_eq _, steady_eq _, steady_eq _, steady_eq _, steady_eq _, steady_eq _, steady_eq _, steady_eq _, steady_eq _, steady_eq _, trivial⟩) ?_ ?_
                · refine ⟨?_, ?_, ?_, ?_, ?_, ?_, ?_, ?_, ?_, ?_, ?_, ?_, ?_, ?_, ?_, ?_, ?_, ?_, ?_, ?_, ?_, ?_, ?_, ?_, ?_, ?_, ?_, ?_, ?_, ?_, ?_, ?_, ?_, ?_, ?_, ?_, ?_, ?_, ?_, ?_, ?_, ?_, ?_, ?_, ?_, ?_, ?_, ?_, ?_, ?_, ?_, ?_, ?_, ?_, ?_, ?_, ?_, ?_, trivial⟩
                  · refine ob_plain [5] rfl rfl fun aa g h => ?_
                    have yy0 := seen_out (v := .pointer (some ⟨w3.heap.size, 0, none⟩)) rfl rfl h.1
                    have ee0 := getD_of yy0
                    exact tupon_value (v := .pointer (some ⟨w3.heap.size, 1, none⟩)) (by simp [go_sem, ee0, yy0]) (Below.refl _ _) rfl
                  · refine ob_plain [71] rfl rfl fun aa g h => ?_
                    obtain ⟨_, yy0, rfl⟩ := seen_in rfl h.1
                    have ee0 := getD_of yy0
                    exact tupon_value (v := .slice (some ⟨bl, ol, none⟩) D.length c1) (by simp [go_sem, ee0, yy0, d1 g]) (Below.refl _ _) rfl
                  · refine ob_plain [8] rfl rfl fun aa g h => ?_
                    have yy0 := seen_out (v := .int .i64 (k : Int)) rfl rfl h.1
                    have ee0 := getD_of yy0
                    exact tupon_value (v := .int .i64 (k : Int)) (by simp [go_sem, ee0, yy0]) (Below.refl _ _) rfl
                  · refine ob_plain [72, 73] rfl rfl fun aa g h => ?_
                    obtain ⟨_, yy0, rfl⟩ := seen_in rfl h.1
                    have ee0 := getD_of yy0
                    obtain ⟨_, yy1, rfl⟩ := seen_in rfl h.2.1
                    have ee1 := getD_of yy1
                    exact tupon_value (v := .pointer (some ⟨bl, ol + k * 5, none⟩)) (by simp [go_sem, ee0, yy0, ee1, yy1, i2]) (Below.refl _ _) rfl
                  · refine ob_plain [74] rfl rfl fun aa g h => ?_
                    obtain ⟨_, yy0, rfl⟩ := seen_in rfl h.1
                    have ee0 := getD_of yy0
                    exact tupon_value (v := .pointer (some ⟨bl, ol + k * 5, none⟩)) (by simp [go_sem, ee0, yy0]) (Below.refl _ _) rfl
                  · refine ob_plain [75] rfl rfl fun aa g h => ?_
                    obtain ⟨_, yy0, rfl⟩ := seen_in rfl h.1
                    have ee0 := getD_of yy0
                    exact tupon_value (v := .int .i64 op) (by simp [go_sem, ee0, yy0, fa0 g]) (Below.refl _ _) rfl
                  · refine ob_plain [5] rfl rfl fun aa g h => ?_
                    have yy0 := seen_out (v := .pointer (some ⟨w3.heap.size, 0, none⟩)) rfl rfl h.1
                    have ee0 := getD_of yy0
                    exact tupon_value (v := .pointer (some ⟨w3.heap.size, 1, none⟩)) (by simp [go_sem, ee0, yy0]) (Below.refl _ _) rfl
                  · refine ob_plain [77] rfl rfl fun aa g h => ?_
                    obtain ⟨_, yy0, rfl⟩ := seen_in rfl h.1
                    have ee0 := getD_of yy0
                    exact tupon_value (v := .slice (some ⟨bl, ol, none⟩) D.length c1) (by simp [go_sem, ee0, yy0, d1 g]) (Below.refl _ _) rfl
                  · refine ob_plain [9] rfl rfl fun aa g h => ?_
                    have yy0 := seen_out (v := .int .i64 (j : Int)) rfl rfl h.1
                    have ee0 := getD_of yy0
                    exact tupon_value (v := .int .i64 (j : Int)) (by simp [go_sem, ee0, yy0]) (Below.refl _ _) rfl
                  · refine ob_plain [78, 79] rfl rfl fun aa g h => ?_
                    obtain ⟨_, yy0, rfl⟩ := seen_in rfl h.1
                    have ee0 := getD_of yy0
                    obtain ⟨_, yy1, rfl⟩ := seen_in rfl h.2.1
                    have ee1 := getD_of yy1
                    exact tupon_value (v := .pointer (some ⟨bl, ol + j * 5, none⟩)) (by simp [go_sem, ee0, yy0, ee1, yy1, i4]) (Below.refl _ _) rfl
                  · refine ob_plain [80] rfl rfl fun aa g h => ?_
                    obtain ⟨_, yy0, rfl⟩ := seen_in rfl h.1
                    have ee0 := getD_of yy0
                    exact tupon_value (v := .pointer (some ⟨bl, ol + j * 5, none⟩)) (by simp [go_sem, ee0, yy0]) (Below.refl _ _) rfl
                  · refine ob_plain [81] rfl rfl fun aa g h => ?_
                    obtain ⟨_, yy0, rfl⟩ := seen_in rfl h.1
                    have ee0 := getD_of yy0
                    exact tupon_value (v := .int .i64 op2) (by simp [go_sem, ee0, yy0, fb0 g]) (Below.refl _ _) rfl
                  · refine ob_plain [76, 82] rfl rfl fun aa g h => ?_
                    obtain ⟨_, yy0, rfl⟩ := seen_in rfl h.1
                    have ee0 := getD_of yy0
                    obtain ⟨_, yy1, rfl⟩ := seen_in rfl h.2.1
                    have ee1 := getD_of yy1
                    exact tupon_value (v := .bool false) (by simp [go_sem, ee0, yy0, ee1, yy1, i9]) (Below.refl _ _) rfl
                  · refine ob_plain [83] rfl rfl fun aa g h => ?_
                    obtain ⟨_, yy0, rfl⟩ := seen_in rfl h.1
                    have ee0 := getD_of yy0
                    exact tupon_value (v := .bool false) (by simp [go_sem, ee0, yy0]) (Below.refl _ _) rfl
                  · exact ob_gfalse _ _ true 84 rfl rfl rfl rfl (fun v w h => h) (fun _ => rfl)
                  · exact ob_gfalse _ _ true 84 rfl rfl rfl rfl (fun v w h => h) (fun _ => rfl)
                  · exact ob_gfalse _ _ true 84 rfl rfl rfl rfl (fun v w h => h) (fun _ => rfl)
                  · exact ob_gfalse _ _ true 84 rfl rfl rfl rfl (fun v w h => h) (fun _ => rfl)
                  · exact ob_gfalse _ _ true 84 rfl rfl rfl rfl (fun v w h => h) (fun _ => rfl)
                  · exact ob_gfalse _ _ true 84 rfl rfl rfl rfl (fun v w h => h) (fun _ => rfl)
                  · exact ob_gfalse _ _ true 84 rfl rfl rfl rfl (fun v w h => h) (fun _ => rfl)
                  · exact ob_gfalse _ _ true 84 rfl rfl rfl rfl (fun v w h => h) (fun _ => rfl)
                  · exact ob_gfalse _ _ true 84 rfl rfl rfl rfl (fun v w h => h) (fun _ => rfl)
                  · exact ob_gfalse _ _ true 84 rfl rfl rfl rfl (fun v w h => h) (fun _ => rfl)
                  · exact ob_gfalse _ _ true 84 rfl rfl rfl rfl (fun v w h => h) (fun _ => rfl)
                  · exact ob_gfalse _ _ true 84 rfl rfl rfl rfl (fun v w h => h) (fun _ => rfl)
                  · exact ob_gfalse _ _ true 84 rfl rfl rfl rfl (fun v w h => h) (fun _ => rfl)
                  · refine ob_plain [84, 97] rfl rfl fun aa g h => ?_
                    obtain ⟨_, yy0, rfl⟩ := seen_in rfl h.1
                    have ee0 := getD_of yy0
                    obtain ⟨_, yy1, rfl⟩ := seen_in rfl h.2.1
                    have ee1 := getD_of yy1
                    exact tupon_value (v := .bool false) (by simp [go_sem, ee0, yy0, ee1, yy1]) (Below.refl _ _) rfl
                  · refine ob_plain [98] rfl rfl fun aa g h => ?_
                    obtain ⟨_, yy0, rfl⟩ := seen_in rfl h.1
                    have ee0 := getD_of yy0
                    exact tupon_value (v := .bool false) (by simp [go_sem, ee0, yy0]) (Below.refl _ _) rfl
                  · exact ob_gfalse _ _ true 99 rfl rfl rfl rfl (fun v w h => h) (fun _ => rfl)
                  · exact ob_gfalse _ _ true 99 rfl rfl rfl rfl (fun v w h => h) (fun _ => rfl)
                  · exact ob_gfalse _ _ true 99 rfl rfl rfl rfl (fun v w h => h) (fun _ => rfl)
                  · exact ob_gfalse _ _ true 99 rfl rfl rfl rfl (fun v w h => h) (fun _ => rfl)
                  · exact ob_gfalse _ _ true 99 rfl rfl rfl rfl (fun v w h => h) (fun _ => rfl)
                  · exact ob_gfalse _ _ true 99 rfl rfl rfl rfl (fun v w h => h) (fun _ => rfl)
                  · exact ob_gfalse _ _ true 99 rfl rfl rfl rfl (fun v w h => h) (fun _ => rfl)
                  · exact ob_gfalse _ _ true 99 rfl rfl rfl rfl (fun v w h => h) (fun _ => rfl)
                  · exact ob_gfalse _ _ true 99 rfl rfl rfl rfl (fun v w h => h) (fun _ => rfl)
                  · exact ob_gfalse _ _ true 99 rfl rfl rfl rfl (fun v w h => h) (fun _ => rfl)
                  · exact ob_gfalse _ _ true 99 rfl rfl rfl rfl (fun v w h => h) (fun _ => rfl)
                  · exact ob_gfalse _ _ true 99 rfl rfl rfl rfl (fun v w h => h) (fun _ => rfl)
                  · exact ob_gfalse _ _ true 99 rfl rfl rfl rfl (fun v w h => h) (fun _ => rfl)
                  · refine ob_plain [99, 112] rfl rfl fun aa g h => ?_
                    obtain ⟨_, yy0, rfl⟩ := seen_in rfl h.1
                    have ee0 := getD_of yy0
                    obtain ⟨_, yy1, rfl⟩ := seen_in rfl h.2.1
                    have ee1 := getD_of yy1
                    exact tupon_value (v := .bool false) (by simp [go_sem, ee0, yy0, ee1, yy1]) (Below.refl _ _) rfl
                  · refine ob_plain [113] rfl rfl fun aa g h => ?_
                    obtain ⟨_, yy0, rfl⟩ := seen_in rfl h.1
                    have ee0 := getD_of yy0
                    exact tupon_value (v := .bool false) (by simp [go_sem, ee0, yy0]) (Below.refl _ _) rfl
                  · exact ob_gfalse _ _ true 114 rfl rfl rfl rfl (fun v w h => h) (fun _ => rfl)
                  · exact ob_gfalse _ _ true 114 rfl rfl rfl rfl (fun v w h => h) (fun _ => rfl)
                  · exact ob_gfalse _ _ true 114 rfl rfl rfl rfl (fun v w h => h) (fun _ => rfl)
                  · exact ob_gfalse _ _ true 114 rfl rfl rfl rfl (fun v w h => h) (fun _ => rfl)
                  · exact ob_gfalse _ _ true 114 rfl rfl rfl rfl (fun v w h => h) (fun _ => rfl)
                  · exact ob_gfalse _ _ true 114 rfl rfl rfl rfl (fun v w h => h) (fun _ => rfl)
                  · exact ob_gfalse _ _ true 114 rfl rfl rfl rfl (fun v w h => h) (fun _ => rfl)
                  · exact ob_gfalse _ _ true 114 rfl rfl rfl rfl (fun v w h => h) (fun _ => rfl)
                  · exact ob_gfalse _ _ true 114 rfl rfl rfl rfl (fun v w h => h) (fun _ => rfl)
                  · exact ob_gfalse _ _ true 114 rfl rfl rfl rfl (fun v w h => h) (fun _ => rfl)
                  · exact ob_gfalse _ _ true 114 rfl rfl rfl rfl (fun v w h => h) (fun _ => rfl)
                  · exact ob_gfalse _ _ true 114 rfl rfl rfl rfl (fun v w h => h) (fun _ => rfl)
                  · exact ob_gfalse _ _ true 114 rfl rfl rfl rfl (fun v w h => h) (fun _ => rfl)
                  · refine ob_plain [114, 127] rfl rfl fun aa g h => ?_
                    obtain ⟨_, yy0, rfl⟩ := seen_in rfl h.1
                    have ee0 := getD_of yy0
                    obtain ⟨_, yy1, rfl⟩ := seen_in rfl h.2.1
                    have ee1 := getD_of yy1
                    exact tupon_value (v := .bool false) (by simp [go_sem, ee0, yy0, ee1, yy1]) (Below.refl _ _) rfl
                rintro w9 hB9 _ rfl _ rfl _ rfl _ rfl _ rfl _ rfl _ rfl _ rfl _ rfl _ rfl _ rfl _ rfl _ rfl _ rfl _ rfl _ rfl _ rfl _ rfl _ rfl _ rfl _ rfl _ rfl _ rfl _ rfl _ rfl _ rfl _ rfl _ rfl _ rfl _ rfl _ rfl _ rfl _ rfl _ rfl _ rfl _ rfl _ rfl _ rfl _ rfl _ rfl _ rfl _ rfl _ rfl _ rfl _ rfl _ rfl _ rfl _ rfl _ rfl _ rfl _ rfl _ rfl _ rfl _ rfl _ rfl _ rfl _ rfl _ rfl
                simp only [Act.put, List.setIfInBounds_toArray, List.set_cons_succ, List.set_cons_zero, List.filterMap_nil, finP]
                have HR9 := Lib.hid (HR.out.grow hB9)
                have HBn := Lib.hid (HB.out.trans (hB9.mono HB.out.size))
                clear fa0 fa1 fa2 fa3 fa4 fb0 fb1 fb2 fb3 fb4 d1 hB9
                go_wp2_with (fail)
                go_roundw
                case rel => exact ⟨j + 1, by go_num, by omega, HR9, HBn⟩
                case measure => simp [intOf]; omega
              ·
                have n0 : (op == op2) = true := by simpa using hne.1
                have i9 : (a == a2) = false := by simpa using hne.2
                clear hne
                refine region_pred (lk [(71, fun z_ _ => z_ = .pointer (some ⟨w3.heap.size, 1, none⟩)), (72, fun z_ _ => z_ = .slice (some ⟨bl, ol, none⟩) D.length c1), (73, fun z_ _ => z_ = .int .i64 (k : Int)), (74, fun z_ _ => z_ = .pointer (some ⟨bl, ol + k * 5, none⟩)), (75, fun z_ _ => z_ = .pointer (some ⟨bl, ol + k * 5, none⟩)), (76, fun z_ _ => z_ = .int .i64 op), (77, fun z_ _ => z_ = .pointer (some ⟨w3.heap.size, 1, none⟩)), (78, fun z_ _ => z_ = .slice (some ⟨bl, ol, none⟩) D.length c1), (79, fun z_ _ => z_ = .int .i64 (j : Int)), (80, fun z_ _ => z_ = .pointer (some ⟨bl, ol + j * 5, none⟩)), (81, fun z_ _ => z_ = .pointer (some ⟨bl, ol + j * 5, none⟩)), (82, fun z_ _ => z_ = .int .i64 op2), (83, fun z_ _ => z_ = .bool true), (84, fun z_ _ => z_ = .bool true), (85, fun z_ _ => z_ = .pointer (some ⟨w3.heap.size, 1, none⟩)), (86, fun z_ _ => z_ = .slice (some ⟨bl, ol, none⟩) D.length c1), (87, fun z_ _ => z_ = .int .i64 (k : Int)), (88, fun z_ _ => z_ = .pointer (some ⟨bl, ol + k * 5, none⟩)), (89, fun z_ _ => z_ = .pointer (some ⟨bl, ol + k * 5 + 1, none⟩)), (90, fun z_ _ => z_ = .int .i64 a), (91, fun z_ _ => z_ = .pointer (some ⟨w3.heap.size, 1, none⟩)), (92, fun z_ _ => z_ = .slice (some ⟨bl, ol, none⟩) D.length c1), (93, fun z_ _ => z_ = .int .i64 (j : Int)), (94, fun z_ _ => z_ = .pointer (some ⟨bl, ol + j * 5, none⟩)), (95, fun z_ _ => z_ = .pointer (some ⟨bl, ol + j * 5 + 1, none⟩)), (96, fun z_ _ => z_ = .int .i64 a2), (97, fun z_ _ => z_ = .bool false), (98, fun z_ _ => z_ = .bool false), (99, fun z_ _ => z_ = .bool false), (100, fun z_ _ => z_ = undef), (101, fun z_ _ => z_ = undef), (102, fun z_ _ => z_ = undef), (103, fun z_ _ => z_ = undef), (104, fun z_ _ => z_ = undef), (105, fun z_ _ => z_ = undef), (106, fun z_ _ => z_ = undef), (107, fun z_ _ => z_ = undef), (108, fun z_ _ => z_ = undef), (109, fun z_ _ => z_ = undef), (110, fun z_ _ => z_ = undef), (111, fun z_ _ => z_ = undef), (112, fun z_ _ => z_ = undef), (113, fun z_ _ => z_ = .bool false), (114, fun z_ _ => z_ = .bool false), (115, fun z_ _ => z_ = undef), (116, fun z_ _ => z_ = undef), (117, fun z_ _ => z_ = undef), (118, fun z_ _ => z_ = undef), (119, fun z_ _ => z_ = undef), (120, fun z_ _ => z_ = undef), (121, fun z_ _ => z_ = undef), (122, fun z_ _ => z_ = undef), (123, fun z_ _ => z_ = undef), (124, fun z_ _ => z_ = undef), (125, fun z_ _ => z_ = undef), (126, fun z_ _ => z_ = undef), (127, fun z_ _ => z_ = undef), (128, fun z_ _ => z_ = .bool false)]) (by kernel_rfl) (by kernel_rfl) (lk_steady _ ⟨steady_eq _, steady_eq _, steady_eq _, steady_eq _, steady_eq _, steady_eq _, steady_eq _, steady_eq _, steady_eq _, steady_eq _, steady_eq _, steady_eq _, steady_eq _, steady_eq _, steady_eq _, steady_eq _, steady_eq _, steady_eq _, steady_eq _, steady_eq _, steady_eq _, steady_eq _, steady_eq _, steady_eq _, steady_eq _, steady_eq _, steady_eq _, steady_eq _, steady_eq _, steady_eq _, steady_eq _, steady_eq _, steady_eq _, steady_eq _, steady_eq _, steady_eq _, steady_eq _, steady_eq _, steady_eq _, steady_eq _, steady_eq _, steady_eq _, steady_eq _, steady_eq _, steady_eq _, steady_eq _, steady_eq _, steady_eq _, steady_eq _, steady_eq _, steady_eq _, steady_eq _, steady_eq _, steady_eq _, steady_eq _, steady_eq _, steady_eq _, steady_eq _, trivial⟩) ?_ ?_
                · refine ⟨?_, ?_, ?_, ?_, ?_, ?_, ?_, ?_, ?_, ?_, ?_, ?_, ?_, ?_, ?_, ?_, ?_, ?_, ?_, ?_, ?_, ?_, ?_, ?_, ?_, ?_, ?_, ?_, ?_, ?_, ?_, ?_, ?_, ?_, ?_, ?_, ?_, ?_, ?_, ?_, ?_, ?_, ?_, ?_, ?_, ?_, ?_, ?_, ?_, ?_, ?_, ?_, ?_, ?_, ?_, ?_, ?_, ?_, trivial⟩
                  · refine ob_plain [5] rfl rfl fun aa g h => ?_
                    have yy0 := seen_out (v := .pointer (some ⟨w3.heap.size, 0, none⟩)) rfl rfl h.1
                    have ee0 := getD_of yy0
                    exact tupon_value (v := .pointer (some ⟨w3.heap.size, 1, none⟩)) (by simp [go_sem, ee0, yy0]) (Below.refl _ _) rfl
                  · refine ob_plain [71] rfl rfl fun aa g h => ?_
                    obtain ⟨_, yy0, rfl⟩ := seen_in rfl h.1
                    have ee0 := getD_of yy0
                    exact tupon_value (v := .slice (some ⟨bl, ol, none⟩) D.length c1) (by simp [go_sem, ee0, yy0, d1 g]) (Below.refl _ _) rfl
                  · refine ob_plain [8] rfl rfl fun aa g h => ?_
                    have yy0 := seen_out (v := .int .i64 (k : Int)) rfl rfl h.1
                    have ee0 := getD_of yy0
                    exact tupon_value (v := .int .i64 (k : Int)) (by simp [go_sem, ee0, yy0]) (Below.refl _ _) rfl
                  · refine ob_plain [72, 73] rfl rfl fun aa g h => ?_
                    obtain ⟨_, yy0, rfl⟩ := seen_in rfl h.1
                    have ee0 := getD_of yy0
                    obtain ⟨_, yy1, rfl⟩ := seen_in rfl h.2.1
                    have ee1 := getD_of yy1
                    exact tupon_value (v := .pointer (some ⟨bl, ol + k * 5, none⟩)) (by simp [go_sem, ee0, yy0, ee1, yy1, i2]) (Below.refl _ _) rfl
                  · refine ob_plain [74] rfl rfl fun aa g h => ?_
                    obtain ⟨_, yy0, rfl⟩ := seen_in rfl h.1
                    have ee0 := getD_of yy0
                    exact tupon_value (v := .pointer (some ⟨bl, ol + k * 5, none⟩)) (by simp [go_sem, ee0, yy0]) (Below.refl _ _) rfl
                  · refine ob_plain [75] rfl rfl fun aa g h => ?_
                    obtain ⟨_, yy0, rfl⟩ := seen_in rfl h.1
                    have ee0 := getD_of yy0
                    exact tupon_value (v := .int .i64 op) (by simp [go_sem, ee0, yy0, fa0 g]) (Below.refl _ _) rfl
                  · refine ob_plain [5] rfl rfl fun aa g h => ?_
                    have yy0 := seen_out (v := .pointer (some ⟨w3.heap.size, 0, none⟩)) rfl rfl h.1
                    have ee0 := getD_of yy0
                    exact tupon_value (v := .pointer (some ⟨w3.heap.size, 1, none⟩)) (by simp [go_sem, ee0, yy0]) (Below.refl _ _) rfl
                  · refine ob_plain [77] rfl rfl fun aa g h => ?_
                    obtain ⟨_, yy0, rfl⟩ := seen_in rfl h.1
                    have ee0 := getD_of yy0
                    exact tupon_value (v := .slice (some ⟨bl, ol, none⟩) D.length c1) (by simp [go_sem, ee0, yy0, d1 g]) (Below.refl _ _) rfl
                  · refine ob_plain [9] rfl rfl fun aa g h => ?_
                    have yy0 := seen_out (v := .int .i64 (j : Int)) rfl rfl h.1
                    have ee0 := getD_of yy0
                    exact tupon_value (v := .int .i64 (j : Int)) (by simp [go_sem, ee0, yy0]) (Below.refl _ _) rfl
                  · refine ob_plain [78, 79] rfl rfl fun aa g h => ?_
                    obtain ⟨_, yy0, rfl⟩ := seen_in rfl h.1
                    have ee0 := getD_of yy0
                    obtain ⟨_, yy1, rfl⟩ := seen_in rfl h.2.1
                    have ee1 := getD_of yy1
                    exact tupon_value (v := .pointer (some ⟨bl, ol + j * 5, none⟩)) (by simp [go_sem, ee0, yy0, ee1, yy1, i4]) (Below.refl _ _) rfl
                  · refine ob_plain [80] rfl rfl fun aa g h => ?_
                    obtain ⟨_, yy0, rfl⟩ := seen_in rfl h.1
                    have ee0 := getD_of yy0
                    exact tupon_value (v := .pointer (some ⟨bl, ol + j * 5, none⟩)) (by simp [go_sem, ee0, yy0]) (Below.refl _ _) rfl
                  · refine ob_plain [81] rfl rfl fun aa g h => ?_
                    obtain ⟨_, yy0, rfl⟩ := seen_in rfl h.1
                    have ee0 := getD_of yy0
                    exact tupon_value (v := .int .i64 op2) (by simp [go_sem, ee0, yy0, fb0 g]) (Below.refl _ _) rfl
                  · refine ob_plain [76, 82] rfl rfl fun aa g h => ?_
                    obtain ⟨_, yy0, rfl⟩ := seen_in rfl h.1
                    have ee0 := getD_of yy0
                    obtain ⟨_, yy1, rfl⟩ := seen_in rfl h.2.1
                    have ee1 := getD_of yy1
                    exact tupon_value (v := .bool true) (by simp [go_sem, ee0, yy0, ee1, yy1, n0]) (Below.refl _ _) rfl
                  · refine ob_plain [83] rfl rfl fun aa g h => ?_
                    obtain ⟨_, yy0, rfl⟩ := seen_in rfl h.1
                    have ee0 := getD_of yy0
                    exact tupon_value (v := .bool true) (by simp [go_sem, ee0, yy0]) (Below.refl _ _) rfl
                  · refine ob_gtrue [5] _ true 84 rfl rfl rfl rfl (fun v w h => h) fun aa g h => ?_
                    have yy0 := seen_out (v := .pointer (some ⟨w3.heap.size, 0, none⟩)) rfl rfl h.1
                    have ee0 := getD_of yy0
                    exact tupon_value (v := .pointer (some ⟨w3.heap.size, 1, none⟩)) (by simp [go_sem, ee0, yy0]) (Below.refl _ _) rfl
                  · refine ob_gtrue [85] _ true 84 rfl rfl rfl rfl (fun v w h => h) fun aa g h => ?_
                    obtain ⟨_, yy0, rfl⟩ := seen_in rfl h.1
                    have ee0 := getD_of yy0
                    exact tupon_value (v := .slice (some ⟨bl, ol, none⟩) D.length c1) (by simp [go_sem, ee0, yy0, d1 g]) (Below.refl _ _) rfl
                  · refine ob_gtrue [8] _ true 84 rfl rfl rfl rfl (fun v w h => h) fun aa g h => ?_
                    have yy0 := seen_out (v := .int .i64 (k : Int)) rfl rfl h.1
                    have ee0 := getD_of yy0
                    exact tupon_value (v := .int .i64 (k : Int)) (by simp [go_sem, ee0, yy0]) (Below.refl _ _) rfl
                  · refine ob_gtrue [86, 87] _ true 84 rfl rfl rfl rfl (fun v w h => h) fun aa g h => ?_
                    obtain ⟨_, yy0, rfl⟩ := seen_in rfl h.1
                    have ee0 := getD_of yy0
                    obtain ⟨_, yy1, rfl⟩ := seen_in rfl h.2.1
                    have ee1 := getD_of yy1
                    exact tupon_value (v := .pointer (some ⟨bl, ol + k * 5, none⟩)) (by simp [go_sem, ee0, yy0, ee1, yy1, i2]) (Below.refl _ _) rfl
                  · refine ob_gtrue [88] _ true 84 rfl rfl rfl rfl (fun v w h => h) fun aa g h => ?_
                    obtain ⟨_, yy0, rfl⟩ := seen_in rfl h.1
                    have ee0 := getD_of yy0
                    exact tupon_value (v := .pointer (some ⟨bl, ol + k * 5 + 1, none⟩)) (by simp [go_sem, ee0, yy0]) (Below.refl _ _) rfl
                  · refine ob_gtrue [89] _ true 84 rfl rfl rfl rfl (fun v w h => h) fun aa g h => ?_
                    obtain ⟨_, yy0, rfl⟩ := seen_in rfl h.1
                    have ee0 := getD_of yy0
                    exact tupon_value (v := .int .i64 a) (by simp [go_sem, ee0, yy0, fa1 g]) (Below.refl _ _) rfl
                  · refine ob_gtrue [5] _ true 84 rfl rfl rfl rfl (fun v w h => h) fun aa g h => ?_
                    have yy0 := seen_out (v := .pointer (some ⟨w3.heap.size, 0, none⟩)) rfl rfl h.1
                    have ee0 := getD_of yy0
                    exact tupon_value (v := .pointer (some ⟨w3.heap.size, 1, none⟩)) (by simp [go_sem, ee0, yy0]) (Below.refl _ _) rfl
                  · refine ob_gtrue [91] _ true 84 rfl rfl rfl rfl (fun v w h => h) fun aa g h => ?_
                    obtain ⟨_, yy0, rfl⟩ := seen_in rfl h.1
                    have ee0 := getD_of yy0
                    exact tupon_value (v := .slice (some ⟨bl, ol, none⟩) D.length c1) (by simp [go_sem, ee0, yy0, d1 g]) (Below.refl _ _) rfl
                  · refine ob_gtrue [9] _ true 84 rfl rfl rfl rfl (fun v w h => h) fun aa g h => ?_
                    have yy0 := seen_out (v := .int .i64 (j : Int)) rfl rfl h.1
                    have ee0 := getD_of yy0
                    exact tupon_value (v := .int .i64 (j : Int)) (by simp [go_sem, ee0, yy0]) (Below.refl _ _) rfl
                  · refine ob_gtrue [92, 93] _ true 84 rfl rfl rfl rfl (fun v w h => h) fun aa g h => ?_
                    obtain ⟨_, yy0, rfl⟩ := seen_in rfl h.1
                    have ee0 := getD_of yy0
                    obtain ⟨_, yy1, rfl⟩ := seen_in rfl h.2.1
                    have ee1 := getD_of yy1
                    exact tupon_value (v := .pointer (some ⟨bl, ol + j * 5, none⟩)) (by simp [go_sem, ee0, yy0, ee1, yy1, i4]) (Below.refl _ _) rfl
                  · refine ob_gtrue [94] _ true 84 rfl rfl rfl rfl (fun v w h => h) fun aa g h => ?_
                    obtain ⟨_, yy0, rfl⟩ := seen_in rfl h.1
                    have ee0 := getD_of yy0
                    exact tupon_value (v := .pointer (some ⟨bl, ol + j * 5 + 1, none⟩)) (by simp [go_sem, ee0, yy0]) (Below.refl _ _) rfl
                  · refine ob_gtrue [95] _ true 84 rfl rfl rfl rfl (fun v w h => h) fun aa g h => ?_
                    obtain ⟨_, yy0, rfl⟩ := seen_in rfl h.1
                    have ee0 := getD_of yy0
                    exact tupon_value (v := .int .i64 a2) (by simp [go_sem, ee0, yy0, fb1 g]) (Below.refl _ _) rfl
                  · refine ob_gtrue [90, 96] _ true 84 rfl rfl rfl rfl (fun v w h => h) fun aa g h => ?_
                    obtain ⟨_, yy0, rfl⟩ := seen_in rfl h.1
                    have ee0 := getD_of yy0
                    obtain ⟨_, yy1, rfl⟩ := seen_in rfl h.2.1
                    have ee1 := getD_of yy1
                    exact tupon_value (v := .bool false) (by simp [go_sem, ee0, yy0, ee1, yy1, i9]) (Below.refl _ _) rfl
                  · refine ob_plain [84, 97] rfl rfl fun aa g h => ?_
                    obtain ⟨_, yy0, rfl⟩ := seen_in rfl h.1
                    have ee0 := getD_of yy0
                    obtain ⟨_, yy1, rfl⟩ := seen_in rfl h.2.1
                    have ee1 := getD_of yy1
                    exact tupon_value (v := .bool false) (by simp [go_sem, ee0, yy0, ee1, yy1]) (Below.refl _ _) rfl
                  · refine ob_plain [98] rfl rfl fun aa g h => ?_
                    obtain ⟨_, yy0, rfl⟩ := seen_in rfl h.1
                    have ee0 := getD_of yy0
                    exact tupon_value (v := .bool false) (by simp [go_sem, ee0, yy0]) (Below.refl _ _) rfl
                  · exact ob_gfalse _ _ true 99 rfl rfl rfl rfl (fun v w h => h) (fun _ => rfl)
                  · exact ob_gfalse _ _ true 99 rfl rfl rfl rfl (fun v w h => h) (fun _ => rfl)
                  · exact ob_gfalse _ _ true 99 rfl rfl rfl rfl (fun v w h => h) (fun _ => rfl)
                  · exact ob_gfalse _ _ true 99 rfl rfl rfl rfl (fun v w h => h) (fun _ => rfl)
                  · exact ob_gfalse _ _ true 99 rfl rfl rfl rfl (fun v w h => h) (fun _ => rfl)
                  · exact ob_gfalse _ _ true 99 rfl rfl rfl rfl (fun v w h => h) (fun _ => rfl)
                  · exact ob_gfalse _ _ true 99 rfl rfl rfl rfl (fun v w h => h) (fun _ => rfl)
                  · exact ob_gfalse _ _ true 99 rfl rfl rfl rfl (fun v w h => h) (fun _ => rfl)
                  · exact ob_gfalse _ _ true 99 rfl rfl rfl rfl (fun v w h => h) (fun _ => rfl)
                  · exact ob_gfalse _ _ true 99 rfl rfl rfl rfl (fun v w h => h) (fun _ => rfl)
                  · exact ob_gfalse _ _ true 99 rfl rfl rfl rfl (fun v w h => h) (fun _ => rfl)
                  · exact ob_gfalse _ _ true 99 rfl rfl rfl rfl (fun v w h => h) (fun _ => rfl)
                  · exact ob_gfalse _ _ true 99 rfl rfl rfl rfl (fun v w h => h) (fun _ => rfl)
                  · refine ob_plain [99, 112] rfl rfl fun aa g h => ?_
                    obtain ⟨_, yy0, rfl⟩ := seen_in rfl h.1
                    have ee0 := getD_of yy0
                    obtain ⟨_, yy1, rfl⟩ := seen_in rfl h.2.1
                    have ee1 := getD_of yy1
                    exact tupon_value (v := .bool false) (by simp [go_sem, ee0, yy0, ee1, yy1]) (Below.refl _ _) rfl
                  · refine ob_plain [113] rfl rfl fun aa g h => ?_
                    obtain ⟨_, yy0, rfl⟩ := seen_in rfl h.1
                    have ee0 := getD_of yy0
                    exact tupon_value (v := .bool false) (by simp [go_sem, ee0, yy0]) (Below.refl _ _) rfl
                  · exact ob_gfalse _ _ true 114 rfl rfl rfl rfl (fun v w h => h) (fun _ => rfl)
                  · exact ob_gfalse _ _ true 114 rfl rfl rfl rfl (fun v w h => h) (fun _ => rfl)
                  · exact ob_gfalse _ _ true 114 rfl rfl rfl rfl (fun v w h => h) (fun _ => rfl)
                  · exact ob_gfalse _ _ true 114 rfl rfl rfl rfl (fun v w h => h) (fun _ => rfl)
                  · exact ob_gfalse _ _ true 114 rfl rfl rfl rfl (fun v w h => h) (fun _ => rfl)
                  · exact ob_gfalse _ _ true 114 rfl rfl rfl rfl (fun v w h => h) (fun _ => rfl)
                  · exact ob_gfalse _ _ true 114 rfl rfl rfl rfl (fun v w h => h) (fun _ => rfl)
                  · exact ob_gfalse _ _ true 114 rfl rfl rfl rfl (fun v w h => h) (fun _ => rfl)
                  · exact ob_gfalse _ _ true 114 rfl rfl rfl rfl (fun v w h => h) (fun _ => rfl)
                  · exact ob_gfalse _ _ true 114 rfl rfl rfl rfl (fun v w h => h) (fun _ => rfl)
                  · exact ob_gfalse _ _ true 114 rfl rfl rfl rfl (fun v w h => h) (fun _ => rfl)
                  · exact ob_gfalse _ _ true 114 rfl rfl rfl rfl (fun v w h => h) (fun _ => rfl)
                  · exact ob_gfalse _ _ true 114 rfl rfl rfl rfl (fun v w h => h) (fun _ => rfl)
                  · refine ob_plain [114, 127] rfl rfl fun aa g h => ?_
                    obtain ⟨_, yy0, rfl⟩ := seen_in rfl h.1
                    have ee0 := getD_of yy0
                    obtain ⟨_, yy1, rfl⟩ := seen_in rfl h.2.1
                    have ee1 := getD_of yy1
                    exact tupon_value (v := .bool false) (by simp [go_sem, ee0, yy0, ee1, yy1]) (Below.refl _ _) rfl
                rintro w9 hB9 _ rfl _ rfl _ rfl _ rfl _ rfl _ rfl _ rfl _ rfl _ rfl _ rfl _ rfl _ rfl _ rfl _ rfl _ rfl _ rfl _ rfl _ rfl _ rfl _ rfl _ rfl _ rfl _ rfl _ rfl _ rfl _ rfl _ rfl _ rfl _ rfl _ rfl _ rfl _ rfl _ rfl _ rfl _ rfl _ rfl _ rfl _ rfl _ rfl _ rfl _ rfl _ rfl _ rfl _ rfl _ rfl _ rfl _ rfl _ rfl _ rfl _ rfl _ rfl _ rfl _ rfl _ rfl _ rfl _ rfl _ rfl _ rfl
                simp only [Act.put, List.setIfInBounds_toArray, List.set_cons_succ, List.set_cons_zero, List.filterMap_nil, finP]
                have HR9 := Lib.hid (HR.out.grow hB9)
                have HBn := Lib.hid (HB.out.trans (hB9.mono HB.out.size))
                clear fa0 fa1 fa2 fa3 fa4 fb0 fb1 fb2 fb3 fb4 d1 hB9
                go_wp2_with (fail)
                go_roundw
                case rel => exact ⟨j + 1, by go_num, by omega, HR9, HBn⟩
                case measure => simp [intOf]; omega
              ·
                have n0 : (op == op2) = true := by simpa using hne.1
                have n1 : (a == a2) = true := by simpa using hne.2.1
                have i9 : (b == b2) = false := by simpa using hne.2.2
                clear hne
                refine region_pred (lk [(71, fun z_ _ => z_ = .pointer (some ⟨w3.heap.size, 1, none⟩)), (72, fun z_ _ => z_ = .slice (some ⟨bl, ol, none⟩) D.length c1), (73, fun z_ _ => z_ = .int .i64 (k : Int)), (74, fun z_ _ => z_ = .pointer (some ⟨bl, ol + k * 5, none⟩)), (75, fun z_ _ => z_ = .pointer (some ⟨bl, ol + k * 5, none⟩)), (76, fun z_ _ => z_ = .int .i64 op), (77, fun z_ _ => z_ = .pointer (some ⟨w3.heap.size, 1, none⟩)), (78, fun z_ _ => z_ = .slice (some ⟨bl, ol, none⟩) D.length c1), (79, fun z_ _ => z_ = .int .i64 (j : Int)), (80, fun z_ _ => z_ = .pointer (some ⟨bl, ol + j * 5, none⟩)), (81, fun z_ _ => z_ = .pointer (some ⟨bl, ol + j * 5, none⟩)), (82, fun z_ _ => z_ = .int .i64 op2), (83, fun z_ _ => z_ = .bool true), (84, fun z_ _ => z_ = .bool true), (85, fun z_ _ => z_ = .pointer (some ⟨w3.heap.size, 1, none⟩)), (86, fun z_ _ => z_ = .slice (some ⟨bl, ol, none⟩) D.length c1), (87, fun z_ _ => z_ = .int .i64 (k : Int)), (88, fun z_ _ => z_ = .pointer (some ⟨bl, ol + k * 5, none⟩)), (89, fun z_ _ => z_ = .pointer (some ⟨bl, ol + k * 5 + 1, none⟩)), (90, fun z_ _ => z_ = .int .i64 a), (91, fun z_ _ => z_ = .pointer (some ⟨w3.heap.size, 1, none⟩)), (92, fun z_ _ => z_ = .slice (some ⟨bl, ol, none⟩) D.length c1), (93, fun z_ _ => z_ = .int .i64 (j : Int)), (94, fun z_ _ => z_ = .pointer (some ⟨bl, ol + j * 5, none⟩)), (95, fun z_ _ => z_ = .pointer (some ⟨bl, ol + j * 5 + 1, none⟩)), (96, fun z_ _ => z_ = .int .i64 a2), (97, fun z_ _ => z_ = .bool true), (98, fun z_ _ => z_ = .bool true), (99, fun z_ _ => z_ = .bool true), (100, fun z_ _ => z_ = .pointer (some ⟨w3.heap.size, 1, none⟩)), (101, fun z_ _ => z_ = .slice (some ⟨bl, ol, none⟩) D.length c1), (102, fun z_ _ => z_ = .int .i64 (k : Int)), (103, fun z_ _ => z_ = .pointer (some ⟨bl, ol + k * 5, none⟩)), (104, fun z_ _ => z_ = .pointer (some ⟨bl, ol + k * 5 + 2, none⟩)), (105, fun z_ _ => z_ = .int .i64 b), (106, fun z_ _ => z_ = .pointer (some ⟨w3.heap.size, 1, none⟩)), (107, fun z_ _ => z_ = .slice (some ⟨bl, ol, none⟩) D.length c1), (108, fun z_ _ => z_ = .int .i64 (j : Int)), (109, fun z_ _ => z_ = .pointer (some ⟨bl, ol + j * 5, none⟩)), (110, fun z_ _ => z_ = .pointer (some ⟨bl, ol + j * 5 + 2, none⟩)), (111, fun z_ _ => z_ = .int .i64 b2), (112, fun z_ _ => z_ = .bool false), (113, fun z_ _ => z_ = .bool false), (114, fun z_ _ => z_ = .bool false), (115, fun z_ _ => z_ = undef), (116, fun z_ _ => z_ = undef), (117, fun z_ _ => z_ = undef), (118, fun z_ _ => z_ = undef), (119, fun z_ _ => z_ = undef), (120, fun z_ _ => z_ = undef), (121, fun z_ _ => z_ = undef), (122, fun z_ _ => z_ = undef), (123, fun z_ _ => z_ = undef), (124, fun z_ _ => z_ = undef), (125, fun z_ _ => z_ = undef), (126, fun z_ _ => z_ = undef), (127, fun z_ _ => z_ = undef), (128, fun z_ _ => z_ = .bool false)]) (by kernel_rfl) (by kernel_rfl) (lk_steady _ ⟨steady_eq _, steady_eq _, steady_eq _, steady_eq _, steady_eq _, steady_eq _, steady_eq _, steady_eq _, steady_eq _, steady_eq _, steady_eq _, steady_eq _, steady_eq _, steady_eq _, steady_eq _, steady_eq _, steady_eq _, steady_eq _, steady_eq _, steady_eq _, steady_eq _, steady_eq _, steady_eq _, steady_eq _, steady_eq _, steady_eq _, steady_eq _, steady_eq _, steady_eq _, steady_eq _, steady_eq _, steady_eq _, steady_eq _, steady_eq _, steady_eq _, steady_eq _, steady_eq _, steady_eq _, steady_eq _, steady_eq _, steady_eq _, steady_eq _, steady_eq _, steady_eq _, steady_eq _, steady_eq _, steady_eq _, steady_eq _, steady_eq _, steady_eq _, steady_eq _, steady_eq _, steady_eq _, steady_eq _, steady_eq _, steady_eq _, steady_eq _, steady_eq _, trivial⟩) ?_ ?_
                · refine ⟨?_, ?_, ?_, ?_, ?_, ?_, ?_, ?_, ?_, ?_, ?_, ?_, ?_, ?_, ?_, ?_, ?_, ?_, ?_, ?_, ?_, ?_, ?_, ?_, ?_, ?_, ?_, ?_, ?_, ?_, ?_, ?_, ?_, ?_, ?_, ?_, ?_, ?_, ?_, ?_, ?_, ?_, ?_, ?_, ?_, ?_, ?_, ?_, ?_, ?_, ?_, ?_, ?_, ?_, ?_, ?_, ?_, ?_, trivial⟩
                  · refine ob_plain [5] rfl rfl fun aa g h => ?_
                    have yy0 := seen_out (v := .pointer (some ⟨w3.heap.size, 0, none⟩)) rfl rfl h.1
                    have ee0 := getD_of yy0
                    exact tupon_value (v := .pointer (some ⟨w3.heap.size, 1, none⟩)) (by simp [go_sem, ee0, yy0]) (Below.refl _ _) rfl
                  · refine ob_plain [71] rfl rfl fun aa g h => ?_
                    obtain ⟨_, yy0, rfl⟩ := seen_in rfl h.1
                    have ee0 := getD_of yy0
                    exact tupon_value (v := .slice (some ⟨bl, ol, none⟩) D.length c1) (by simp [go_sem, ee0, yy0, d1 g]) (Below.refl _ _) rfl
                  · refine ob_plain [8] rfl rfl fun aa g h => ?_
                    have yy0 := seen_out (v := .int .i64 (k : Int)) rfl rfl h.1
                    have ee0 := getD_of yy0
                    exact tupon_value (v := .int .i64 (k : Int)) (by simp [go_sem, ee0, yy0]) (Below.refl _ _) rfl
                  · refine ob_plain [72, 73] rfl rfl fun aa g h => ?_
                    obtain ⟨_, yy0, rfl⟩ := seen_in rfl h.1
                    have ee0 := getD_of yy0
                    obtain ⟨_, yy1, rfl⟩ := seen_in rfl h.2.1
                    have ee1 := getD_of yy1
                    exact tupon_value (v := .pointer (some ⟨bl, ol + k * 5, none⟩)) (by simp [go_sem, ee0, yy0, ee1, yy1, i2]) (Below.refl _ _) rfl
                  · refine ob_plain [74] rfl rfl fun aa g h => ?_
                    obtain ⟨_, yy0, rfl⟩ := seen_in rfl h.1
                    have ee0 := getD_of yy0
                    exact tupon_value (v := .pointer (some ⟨bl, ol + k * 5, none⟩)) (by simp [go_sem, ee0, yy0]) (Below.refl _ _) rfl
                  · refine ob_plain [75] rfl rfl fun aa g h => ?_
                    obtain ⟨_, yy0, rfl⟩ := seen_in rfl h.1
                    have ee0 := getD_of yy0
                    exact tupon_value (v := .int .i64 op) (by simp [go_sem, ee0, yy0, fa0 g]) (Below.refl _ _) rfl
                  · refine ob_plain [5] rfl rfl fun aa g h => ?_
                    have yy0 := seen_out (v := .pointer (some ⟨w3.heap.size, 0, none⟩)) rfl rfl h.1
                    have ee0 := getD_of yy0
                    exact tupon_value (v := .pointer (some ⟨w3.heap.size, 1, none⟩)) (by simp [go_sem, ee0, yy0]) (Below.refl _ _) rfl
                  · refine ob_plain [77] rfl rfl fun aa g h => ?_
                    obtain ⟨_, yy0, rfl⟩ := seen_in rfl h.1
                    have ee0 := getD_of yy0
                    exact tupon_value (v := .slice (some ⟨bl, ol, none⟩) D.length c1) (by simp [go_sem, ee0, yy0, d1 g]) (Below.refl _ _) rfl
                  · refine ob_plain [9] rfl rfl fun aa g h => ?_
                    have yy0 := seen_out (v := .int .i64 (j : Int)) rfl rfl h.1
                    have ee0 := getD_of yy0
                    exact tupon_value (v := .int .i64 (j : Int)) (by simp [go_sem, ee0, yy0]) (Below.refl _ _) rfl
                  · refine ob_plain [78, 79] rfl rfl fun aa g h => ?_
                    obtain ⟨_, yy0, rfl⟩ := seen_in rfl h.1
                    have ee0 := getD_of yy0
                    obtain ⟨_, yy1, rfl⟩ := seen_in rfl h.2.1
                    have ee1 := getD_of yy1
                    exact tupon_value (v := .pointer (some ⟨bl, ol + j * 5, none⟩)) (by simp [go_sem, ee0, yy0, ee1, yy1, i4]) (Below.refl _ _) rfl
                  · refine ob_plain [80] rfl rfl fun aa g h => ?_
                    obtain ⟨_, yy0, rfl⟩ := seen_in rfl h.1
                    have ee0 := getD_of yy0
                    exact tupon_value (v := .pointer (some ⟨bl, ol + j * 5, none⟩)) (by simp [go_sem, ee0, yy0]) (Below.refl _ _) rfl
                  · refine ob_plain [81] rfl rfl fun aa g h => ?_
                    obtain ⟨_, yy0, rfl⟩ := seen_in rfl h.1
                    have ee0 := getD_of yy0
                    exact tupon_value (v := .int .i64 op2) (by simp [go_sem, ee0, yy0, fb0 g]) (Below.refl _ _) rfl
                  · refine ob_plain [76, 82] rfl rfl fun aa g h => ?_
                    obtain ⟨_, yy0, rfl⟩ := seen_in rfl h.1
                    have ee0 := getD_of yy0
                    obtain ⟨_, yy1, rfl⟩ := seen_in rfl h.2.1
                    have ee1 := getD_of yy1
                    exact tupon_value (v := .bool true) (by simp [go_sem, ee0, yy0, ee1, yy1, n0]) (Below.refl _ _) rfl
                  · refine ob_plain [83] rfl rfl fun aa g h => ?_
                    obtain ⟨_, yy0, rfl⟩ := seen_in rfl h.1
                    have ee0 := getD_of yy0
                    exact tupon_value (v := .bool true) (by simp [go_sem, ee0, yy0]) (Below.refl _ _) rfl
                  · refine ob_gtrue [5] _ true 84 rfl rfl rfl rfl (fun v w h => h) fun aa g h => ?_
                    have yy0 := seen_out (v := .pointer (some ⟨w3.heap.size, 0, none⟩)) rfl rfl h.1
                    have ee0 := getD_of yy0
                    exact tupon_value (v := .pointer (some ⟨w3.heap.size, 1, none⟩)) (by simp [go_sem, ee0, yy0]) (Below.refl _ _) rfl
                  · refine ob_gtrue [85] _ true 84 rfl rfl rfl rfl (fun v w h => h) fun aa g h => ?_
                    obtain ⟨_, yy0, rfl⟩ := seen_in rfl h.1
                    have ee0 := getD_of yy0
                    exact tupon_value (v := .slice (some ⟨bl, ol, none⟩) D.length c1) (by simp [go_sem, ee0, yy0, d1 g]) (Below.refl _ _) rfl
                  · refine ob_gtrue [8] _ true 84 rfl rfl rfl rfl (fun v w h => h) fun aa g h => ?_
                    have yy0 := seen_out (v := .int .i64 (k : Int)) rfl rfl h.1
                    have ee0 := getD_of yy0
                    exact tupon_value (v := .int .i64 (k : Int)) (by simp [go_sem, ee0, yy0]) (Below.refl _ _) rfl
                  · refine ob_gtrue [86, 87] _ true 84 rfl rfl rfl rfl (fun v w h => h) fun aa g h => ?_
                    obtain ⟨_, yy0, rfl⟩ := seen_in rfl h.1
                    have ee0 := getD_of yy0
                    obtain ⟨_, yy1, rfl⟩ := seen_in rfl h.2.1
                    have ee1 := getD_of yy1
                    exact tupon_value (v := .pointer (some ⟨bl, ol + k * 5, none⟩)) (by simp [go_sem, ee0, yy0, ee1, yy1, i2]) (Below.refl _ _) rfl
                  · refine ob_gtrue [88] _ true 84 rfl rfl rfl rfl (fun v w h => h) fun aa g h => ?_
                    obtain ⟨_, yy0, rfl⟩ := seen_in rfl h.1
                    have ee0 := getD_of yy0
                    exact tupon_value (v := .pointer (some ⟨bl, ol + k * 5 + 1, none⟩)) (by simp [go_sem, ee0, yy0]) (Below.refl _ _) rfl
                  · refine ob_gtrue [89] _ true 84 rfl rfl rfl rfl (fun v w h => h) fun aa g h => ?_
                    obtain ⟨_, yy0, rfl⟩ := seen_in rfl h.1
                    have ee0 := getD_of yy0
                    exact tupon_value (v := .int .i64 a) (by simp [go_sem, ee0, yy0, fa1 g]) (Below.refl _ _) rfl
                  · refine ob_gtrue [5] _ true 84 rfl rfl rfl rfl (fun v w h => h) fun aa g h => ?_
                    have yy0 := seen_out (v := .pointer (some ⟨w3.heap.size, 0, none⟩)) rfl rfl h.1
                    have ee0 := getD_of yy0
                    exact tupon_value (v := .pointer (some ⟨w3.heap.size, 1, none⟩)) (by simp [go_sem, ee0, yy0]) (Below.refl _ _) rfl
                  · refine ob_gtrue [91] _ true 84 rfl rfl rfl rfl (fun v w h => h) fun aa g h => ?_
                    obtain ⟨_, yy0, rfl⟩ := seen_in rfl h.1
                    have ee0 := getD_of yy0
                    exact tupon_value (v := .slice (some ⟨bl, ol, none⟩) D.length c1) (by simp [go_sem, ee0, yy0, d1 g]) (Below.refl _ _) rfl
                  · refine ob_gtrue [9] _ true 84 rfl rfl rfl rfl (fun v w h => h) fun aa g h => ?_
                    have yy0 := seen_out (v := .int .i64 (j : Int)) rfl rfl h.1
                    have ee0 := getD_of yy0
                    exact tupon_value (v := .int .i64 (j : Int)) (by simp [go_sem, ee0, yy0]) (Below.refl _ _) rfl
                  · refine ob_gtrue [92, 93] _ true 84 rfl rfl rfl rfl (fun v w h => h) fun aa g h => ?_
                    obtain ⟨_, yy0, rfl⟩ := seen_in rfl h.1
                    have ee0 := getD_of yy0
                    obtain ⟨_, yy1, rfl⟩ := seen_in rfl h.2.1
                    have ee1 := getD_of yy1
                    exact tupon_value (v := .pointer (some ⟨bl, ol + j * 5, none⟩)) (by simp [go_sem, ee0, yy0, ee1, yy1, i4]) (Below.refl _ _) rfl
                  · refine ob_gtrue [94] _ true 84 rfl rfl rfl rfl (fun v w h => h) fun aa g h => ?_
                    obtain ⟨_, yy0, rfl⟩ := seen_in rfl h.1
                    have ee0 := getD_of yy0
                    exact tupon_value (v := .pointer (some ⟨bl, ol + j * 5 + 1, none⟩)) (by simp [go_sem, ee0, yy0]) (Below.refl _ _) rfl
                  · refine ob_gtrue [95] _ true 84 rfl rfl rfl rfl (fun v w h => h) fun aa g h => ?_
                    obtain ⟨_, yy0, rfl⟩ := seen_in rfl h.1
                    have ee0 := getD_of yy0
                    exact tupon_value (v := .int .i64 a2) (by simp [go_sem, ee0, yy0, fb1 g]) (Below.refl _ _) rfl
                  · refine ob_gtrue [90, 96] _ true 84 rfl rfl rfl rfl (fun v w h => h) fun aa g h => ?_
                    obtain ⟨_, yy0, rfl⟩ := seen_in rfl h.1
                    have ee0 := getD_of yy0
                    obtain ⟨_, yy1, rfl⟩ := seen_in rfl h.2.1
                    have ee1 := getD_of yy1
                    exact tupon_value (v := .bool true) (by simp [go_sem, ee0, yy0, ee1, yy1, n1]) (Below.refl _ _) rfl
                  · refine ob_plain [84, 97] rfl rfl fun aa g h => ?_
                    obtain ⟨_, yy0, rfl⟩ := seen_in rfl h.1
                    have ee0 := getD_of yy0
                    obtain ⟨_, yy1, rfl⟩ := seen_in rfl h.2.1
                    have ee1 := getD_of yy1
                    exact tupon_value (v := .bool true) (by simp [go_sem, ee0, yy0, ee1, yy1]) (Below.refl _ _) rfl
                  · refine ob_plain [98] rfl rfl fun aa g h => ?_
                    obtain ⟨_, yy0, rfl⟩ := seen_in rfl h.1
                    have ee0 := getD_of yy0
                    exact tupon_value (v := .bool true) (by simp [go_sem, ee0, yy0]) (Below.refl _ _) rfl
                  · refine ob_gtrue [5] _ true 99 rfl rfl rfl rfl (fun v w h => h) fun aa g h => ?_
                    have yy0 := seen_out (v := .pointer (some ⟨w3.heap.size, 0, none⟩)) rfl rfl h.1
                    have ee0 := getD_of yy0
                    exact tupon_value (v := .pointer (some ⟨w3.heap.size, 1, none⟩)) (by simp [go_sem, ee0, yy0]) (Below.refl _ _) rfl
                  · refine ob_gtrue [100] _ true 99 rfl rfl rfl rfl (fun v w h => h) fun aa g h => ?_
                    obtain ⟨_, yy0, rfl⟩ := seen_in rfl h.1
                    have ee0 := getD_of yy0
                    exact tupon_value (v := .slice (some ⟨bl, ol, none⟩) D.length c1) (by simp [go_sem, ee0, yy0, d1 g]) (Below.refl _ _) rfl
                  · refine ob_gtrue [8] _ true 99 rfl rfl rfl rfl (fun v w h => h) fun aa g h => ?_
                    have yy0 := seen_out (v := .int .i64 (k : Int)) rfl rfl h.1
                    have ee0 := getD_of yy0
                    exact tupon_value (v := .int .i64 (k : Int)) (by simp [go_sem, ee0, yy0]) (Below.refl _ _) rfl
                  · refine ob_gtrue [101, 102] _ true 99 rfl rfl rfl rfl (fun v w h => h) fun aa g h => ?_
                    obtain ⟨_, yy0, rfl⟩ := seen_in rfl h.1
                    have ee0 := getD_of yy0
                    obtain ⟨_, yy1, rfl⟩ := seen_in rfl h.2.1
                    have ee1 := getD_of yy1
                    exact tupon_value (v := .pointer (some ⟨bl, ol + k * 5, none⟩)) (by simp [go_sem, ee0, yy0, ee1, yy1, i2]) (Below.refl _ _) rfl
                  · refine ob_gtrue [103] _ true 99 rfl rfl rfl rfl (fun v w h => h) fun aa g h => ?_
                    obtain ⟨_, yy0, rfl⟩ := seen_in rfl h.1
                    have ee0 := getD_of yy0
                    exact tupon_value (v := .pointer (some ⟨bl, ol + k * 5 + 2, none⟩)) (by simp [go_sem, ee0, yy0]) (Below.refl _ _) rfl
                  · refine ob_gtrue [104] _ true 99 rfl rfl rfl rfl (fun v w h => h) fun aa g h => ?_
                    obtain ⟨_, yy0, rfl⟩ := seen_in rfl h.1
                    have ee0 := getD_of yy0
                    exact tupon_value (v := .int .i64 b) (by simp [go_sem, ee0, yy0, fa2 g]) (Below.refl _ _) rfl
                  · refine ob_gtrue [5] _ true 99 rfl rfl rfl rfl (fun v w h => h) fun aa g h => ?_
                    have yy0 := seen_out (v := .pointer (some ⟨w3.heap.size, 0, none⟩)) rfl rfl h.1
                    have ee0 := getD_of yy0
                    exact tupon_value (v := .pointer (some ⟨w3.heap.size, 1, none⟩)) (by simp [go_sem, ee0, yy0]) (Below.refl _ _) rfl
                  · refine ob_gtrue [106] _ true 99 rfl rfl rfl rfl (fun v w h => h) fun aa g h => ?_
                    obtain ⟨_, yy0, rfl⟩ := seen_in rfl h.1
                    have ee0 := getD_of yy0
                    exact tupon_value (v := .slice (some ⟨bl, ol, none⟩) D.length c1) (by simp [go_sem, ee0, yy0, d1 g]) (Below.refl _ _) rfl
                  · refine ob_gtrue [9] _ true 99 rfl rfl rfl rfl (fun v w h => h) fun aa g h => ?_
                    have yy0 := seen_out (v := .int .i64 (j : Int)) rfl rfl h.1
                    have ee0 := getD_of yy0
                    exact tupon_value (v := .int .i64 (j : Int)) (by simp [go_sem, ee0, yy0]) (Below.refl _ _) rfl
                  · refine ob_gtrue [107, 108] _ true 99 rfl rfl rfl rfl (fun v w h => h) fun aa g h => ?_
                    obtain ⟨_, yy0, rfl⟩ := seen_in rfl h.1
                    have ee0 := getD_of yy0
                    obtain ⟨_, yy1, rfl⟩ := seen_in rfl h.2.1
                    have ee1 := getD_of yy1
                    exact tupon_value (v := .pointer (some ⟨bl, ol + j * 5, none⟩)) (by simp [go_sem, ee0, yy0, ee1, yy1, i4]) (Below.refl _ _) rfl
                  · refine ob_gtrue [109] _ true 99 rfl rfl rfl rfl (fun v w h => h) fun aa g h => ?_
                    obtain ⟨_, yy0, rfl⟩ := seen_in rfl h.1
                    have ee0 := getD_of yy0
                    exact tupon_value (v := .pointer (some ⟨bl, ol + j * 5 + 2, none⟩)) (by simp [go_sem, ee0, yy0]) (Below.refl _ _) rfl
                  · refine ob_gtrue [110] _ true 99 rfl rfl rfl rfl (fun v w h => h) fun aa g h => ?_
                    obtain ⟨_, yy0, rfl⟩ := seen_in rfl h.1
                    have ee0 := getD_of yy0
                    exact tupon_value (v := .int .i64 b2) (by simp [go_sem, ee0, yy0, fb2 g]) (Below.refl _ _) rfl
                  · refine ob_gtrue [105, 111] _ true 99 rfl rfl rfl rfl (fun v w h => h) fun aa g h => ?_
                    obtain ⟨_, yy0, rfl⟩ := seen_in rfl h.1
                    have ee0 := getD_of yy0
                    obtain ⟨_, yy1, rfl⟩ := seen_in rfl h.2.1
                    have ee1 := getD_of yy1
                    exact tupon_value (v := .bool false) (by simp [go_sem, ee0, yy0, ee1, yy1, i9]) (Below.refl _ _) rfl
                  · refine ob_plain [99, 112] rfl rfl fun aa g h => ?_
                    obtain ⟨_, yy0, rfl⟩ := seen_in rfl h.1
                    have ee0 := getD_of yy0
                    obtain ⟨_, yy1, rfl⟩ := seen_in rfl h.2.1
                    have ee1 := getD_of yy1
                    exact tupon_value (v := .bool false) (by simp [go_sem, ee0, yy0, ee1, yy1]) (Below.refl _ _) rfl
                  · refine ob_plain [113] rfl rfl fun aa g h => ?_
                    obtain ⟨_, yy0, rfl⟩ := seen_in rfl h.1
                    have ee0 := getD_of yy0
                    exact tupon_value (v := .bool false) (by simp [go_sem, ee0, yy0]) (Below.refl _ _) rfl
                  · exact ob_gfalse _ _ true 114 rfl rfl rfl rfl (fun v w h => h) (fun _ => rfl)
                  · exact ob_gfalse _ _ true 114 rfl rfl rfl rfl (fun v w h => h) (fun _ => rfl)
                  · exact ob_gfalse _ _ true 114 rfl rfl rfl rfl (fun v w h => h) (fun _ => rfl)
                  · exact ob_gfalse _ _ true 114 rfl rfl rfl rfl (fun v w h => h) (fun _ => rfl)
                  · exact ob_gfalse _ _ true 114 rfl rfl rfl rfl (fun v w h => h) (fun _ => rfl)
                  · exact ob_gfalse _ _ true 114 rfl rfl rfl rfl (fun v w h => h) (fun _ => rfl)
                  · exact ob_gfalse _ _ true 114 rfl rfl rfl rfl (fun v w h => h) (fun _ => rfl)
                  · exact ob_gfalse _ _ true 114 rfl rfl rfl rfl (fun v w h => h) (fun _ => rfl)
                  · exact ob_gfalse _ _ true 114 rfl rfl rfl rfl (fun v w h => h) (fun _ => rfl)
                  · exact ob_gfalse _ _ true 114 rfl rfl rfl rfl (fun v w h => h) (fun _ => rfl)
                  · exact ob_gfalse _ _ true 114 rfl rfl rfl rfl (fun v w h => h) (fun _ => rfl)
                  · exact ob_gfalse _ _ true 114 rfl rfl rfl rfl (fun v w h => h) (fun _ => rfl)
                  · exact ob_gfalse _ _ true 114 rfl rfl rfl rfl (fun v w h => h) (fun _ => rfl)
                  · refine ob_plain [114, 127] rfl rfl fun aa g h => ?_
                    obtain ⟨_, yy0, rfl⟩ := seen_in rfl h.1
                    have ee0 := getD_of yy0
                    obtain ⟨_, yy1, rfl⟩ := seen_in rfl h.2.1
                    have ee1 := getD_of yy1
                    exact tupon_value (v := .bool false) (by simp [go_sem, ee0, yy0, ee1, yy1]) (Below.refl _ _) rfl
                rintro w9 hB9 _ rfl _ rfl _ rfl _ rfl _ rfl _ rfl _ rfl _ rfl _ rfl _ rfl _ rfl _ rfl _ rfl _ rfl _ rfl _ rfl _ rfl _ rfl _ rfl _ rfl _ rfl _ rfl _ rfl _ rfl _ rfl _ rfl _ rfl _ rfl _ rfl _ rfl _ rfl _ rfl _ rfl _ rfl _ rfl _ rfl _ rfl _ rfl _ rfl _ rfl _ rfl _ rfl _ rfl _ rfl _ rfl _ rfl _ rfl _ rfl _ rfl _ rfl _ rfl _ rfl _ rfl _ rfl _ rfl _ rfl _ rfl _ rfl
                simp only [Act.put, List.setIfInBounds_toArray, List.set_cons_succ, List.set_cons_zero, List.filterMap_nil, finP]
                have HR9 := Lib.hid (HR.out.grow hB9)
                have HBn := Lib.hid (HB.out.trans (hB9.mono HB.out.size))
                clear fa0 fa1 fa2 fa3 fa4 fb0 fb1 fb2 fb3 fb4 d1 hB9
                go_wp2_with (fail)
                go_roundw
                case rel => exact ⟨j + 1, by go_num, by omega, HR9, HBn⟩
                case measure => simp [intOf]; omega
              ·
                have n0 : (op == op2) = true := by simpa using hne.1
                have n1 : (a == a2) = true := by simpa using hne.2.1
                have n2 : (b == b2) = true := by simpa using hne.2.2.1
                have e9 := hne.2.2.2
                rw [e9] at KS
                clear e9
                clear hne
                refine region_pred (lk [(71, fun z_ _ => z_ = .pointer (some ⟨w3.heap.size, 1, none⟩)), (72, fun z_ _ => z_ = .slice (some ⟨bl, ol, none⟩) D.length c1), (73, fun z_ _ => z_ = .int .i64 (k : Int)), (74, fun z_ _ => z_ = .pointer (some ⟨bl, ol + k * 5, none⟩)), (75, fun z_ _ => z_ = .pointer (some ⟨bl, ol + k * 5, none⟩)), (76, fun z_ _ => z_ = .int .i64 op), (77, fun z_ _ => z_ = .pointer (some ⟨w3.heap.size, 1, none⟩)), (78, fun z_ _ => z_ = .slice (some ⟨bl, ol, none⟩) D.length c1), (79, fun z_ _ => z_ = .int .i64 (j : Int)), (80, fun z_ _ => z_ = .pointer (some ⟨bl, ol + j * 5, none⟩)), (81, fun z_ _ => z_ = .pointer (some ⟨bl, ol + j * 5, none⟩)), (82, fun z_ _ => z_ = .int .i64 op2), (83, fun z_ _ => z_ = .bool true), (84, fun z_ _ => z_ = .bool true), (85, fun z_ _ => z_ = .pointer (some ⟨w3.heap.size, 1, none⟩)), (86, fun z_ _ => z_ = .slice (some ⟨bl, ol, none⟩) D.length c1), (87, fun z_ _ => z_ = .int .i64 (k : Int)), (88, fun z_ _ => z_ = .pointer (some ⟨bl, ol + k * 5, none⟩)), (89, fun z_ _ => z_ = .pointer (some ⟨bl, ol + k * 5 + 1, none⟩)), (90, fun z_ _ => z_ = .int .i64 a), (91, fun z_ _ => z_ = .pointer (some ⟨w3.heap.size, 1, none⟩)), (92, fun z_ _ => z_ = .slice (some ⟨bl, ol, none⟩) D.length c1), (93, fun z_ _ => z_ = .int .i64 (j : Int)), (94, fun z_ _ => z_ = .pointer (some ⟨bl, ol + j * 5, none⟩)), (95, fun z_ _ => z_ = .pointer (some ⟨bl, ol + j * 5 + 1, none⟩)), (96, fun z_ _ => z_ = .int .i64 a2), (97, fun z_ _ => z_ = .bool true), (98, fun z_ _ => z_ = .bool true), (99, fun z_ _ => z_ = .bool true), (100, fun z_ _ => z_ = .pointer (some ⟨w3.heap.size, 1, none⟩)), (101, fun z_ _ => z_ = .slice (some ⟨bl, ol, none⟩) D.length c1), (102, fun z_ _ => z_ = .int .i64 (k : Int)), (103, fun z_ _ => z_ = .pointer (some ⟨bl, ol + k * 5, none⟩)), (104, fun z_ _ => z_ = .pointer (some ⟨bl, ol + k * 5 + 2, none⟩)), (105, fun z_ _ => z_ = .int .i64 b), (106, fun z_ _ => z_ = .pointer (some ⟨w3.heap.size, 1, none⟩)), (107, fun z_ _ => z_ = .slice (some ⟨bl, ol, none⟩) D.length c1), (108, fun z_ _ => z_ = .int .i64 (j : Int)), (109, fun z_ _ => z_ = .pointer (some ⟨bl, ol + j * 5, none⟩)), (110, fun z_ _ => z_ = .pointer (some ⟨bl, ol + j * 5 + 2, none⟩)), (111, fun z_ _ => z_ = .int .i64 b2), (112, fun z_ _ => z_ = .bool true), (113, fun z_ _ => z_ = .bool true), (114, fun z_ _ => z_ = .bool true), (115, fun z_ _ => z_ = .pointer (some ⟨w3.heap.size, 1, none⟩)), (116, fun z_ _ => z_ = .slice (some ⟨bl, ol, none⟩) D.length c1), (117, fun z_ _ => z_ = .int .i64 (k : Int)), (118, fun z_ _ => z_ = .pointer (some ⟨bl, ol + k * 5, none⟩)), (119, fun z_ _ => z_ = .pointer (some ⟨bl, ol + k * 5 + 3, none⟩)), (120, fun z_ _ => z_ = .agg #[.int .i64 lo', .int .i64 hi']), (121, fun z_ _ => z_ = .pointer (some ⟨w3.heap.size, 1, none⟩)), (122, fun z_ _ => z_ = .slice (some ⟨bl, ol, none⟩) D.length c1), (123, fun z_ _ => z_ = .int .i64 (j : Int)), (124, fun z_ _ => z_ = .pointer (some ⟨bl, ol + j * 5, none⟩)), (125, fun z_ _ => z_ = .pointer (some ⟨bl, ol + j * 5 + 3, none⟩)), (126, fun z_ _ => z_ = .agg #[.int .i64 lo2, .int .i64 hi2]), (127, fun z_ _ => z_ = .bool false), (128, fun z_ _ => z_ = .bool false)]) (by kernel_rfl) (by kernel_rfl) (lk_steady _ ⟨steady_eq _, steady_eq _, steady_eq _, steady_eq _, steady_eq _, steady_eq _, steady_eq _, steady_eq _, steady_eq _, steady_eq _, steady_eq _, steady_eq _, steady_eq _, steady_eq _, steady_eq _, steady_eq _, steady_eq _, steady_eq _, steady_eq _, steady_eq _, steady_eq _, steady_eq _, steady_eq _, steady_eq _, steady_eq _, steady_eq _, steady_eq _, steady_eq _, steady_eq _, steady_eq _, steady_eq _, steady_eq _, steady_eq _, steady_eq _, steady_eq _, steady_eq _, steady_eq _, steady_eq _, steady_eq _, steady_eq _, steady_eq _, steady_eq _, steady_eq _, steady_eq _, steady_eq _, steady_eq _, steady_eq _, steady_eq _, steady_eq _, steady_eq _, steady_eq _, steady_eq _, steady_eq _, steady_eq _, steady_eq _, steady_eq _, steady_eq _, steady_eq _, trivial⟩) ?_ ?_
                · refine ⟨?_, ?_, ?_, ?_, ?_, ?_, ?_, ?_, ?_, ?_, ?_, ?_, ?_, ?_, ?_, ?_, ?_, ?_, ?_, ?_, ?_, ?_, ?_, ?_, ?_, ?_, ?_, ?_, ?_, ?_, ?_, ?_, ?_, ?_, ?_, ?_, ?_, ?_, ?_, ?_, ?_, ?_, ?_, ?_, ?_, ?_, ?_, ?_, ?_, ?_, ?_, ?_, ?_, ?_, ?_, ?_, ?_, ?_, trivial⟩
                  · refine ob_plain [5] rfl rfl fun aa g h => ?_
                    have yy0 := seen_out (v := .pointer (some ⟨w3.heap.size, 0, none⟩)) rfl rfl h.1
                    have ee0 := getD_of yy0
                    exact tupon_value (v := .pointer (some ⟨w3.heap.size, 1, none⟩)) (by simp [go_sem, ee0, yy0]) (Below.refl _ _) rfl
                  · refine ob_plain [71] rfl rfl fun aa g h => ?_
                    obtain ⟨_, yy0, rfl⟩ := seen_in rfl h.1
                    have ee0 := getD_of yy0
                    exact tupon_value (v := .slice (some ⟨bl, ol, none⟩) D.length c1) (by simp [go_sem, ee0, yy0, d1 g]) (Below.refl _ _) rfl
                  · refine ob_plain [8] rfl rfl fun aa g h => ?_
                    have yy0 := seen_out (v := .int .i64 (k : Int)) rfl rfl h.1
                    have ee0 := getD_of yy0
                    exact tupon_value (v := .int .i64 (k : Int)) (by simp [go_sem, ee0, yy0]) (Below.refl _ _) rfl
                  · refine ob_plain [72, 73] rfl rfl fun aa g h => ?_
                    obtain ⟨_, yy0, rfl⟩ := seen_in rfl h.1
                    have ee0 := getD_of yy0
                    obtain ⟨_, yy1, rfl⟩ := seen_in rfl h.2.1
                    have ee1 := getD_of yy1
                    exact tupon_value (v := .pointer (some ⟨bl, ol + k * 5, none⟩)) (by simp [go_sem, ee0, yy0, ee1, yy1, i2]) (Below.refl _ _) rfl
                  · refine ob_plain [74] rfl rfl fun aa g h => ?_
                    obtain ⟨_, yy0, rfl⟩ := seen_in rfl h.1
                    have ee0 := getD_of yy0
                    exact tupon_value (v := .pointer (some ⟨bl, ol + k * 5, none⟩)) (by simp [go_sem, ee0, yy0]) (Below.refl _ _) rfl
                  · refine ob_plain [75] rfl rfl fun aa g h => ?_
                    obtain ⟨_, yy0, rfl⟩ := seen_in rfl h.1
                    have ee0 := getD_of yy0
                    exact tupon_value (v := .int .i64 op) (by simp [go_sem, ee0, yy0, fa0 g]) (Below.refl _ _) rfl
                  · refine ob_plain [5] rfl rfl fun aa g h => ?_
                    have yy0 := seen_out (v := .pointer (some ⟨w3.heap.size, 0, none⟩)) rfl rfl h.1
                    have ee0 := getD_of yy0
                    exact tupon_value (v := .pointer (some ⟨w3.heap.size, 1, none⟩)) (by simp [go_sem, ee0, yy0]) (Below.refl _ _) rfl
                  · refine ob_plain [77] rfl rfl fun aa g h => ?_
                    obtain ⟨_, yy0, rfl⟩ := seen_in rfl h.1
                    have ee0 := getD_of yy0
                    exact tupon_value (v := .slice (some ⟨bl, ol, none⟩) D.length c1) (by simp [go_sem, ee0, yy0, d1 g]) (Below.refl _ _) rfl
                  · refine ob_plain [9] rfl rfl fun aa g h => ?_
                    have yy0 := seen_out (v := .int .i64 (j : Int)) rfl rfl h.1
                    have ee0 := getD_of yy0
                    exact tupon_value (v := .int .i64 (j : Int)) (by simp [go_sem, ee0, yy0]) (Below.refl _ _) rfl
                  · refine ob_plain [78, 79] rfl rfl fun aa g h => ?_
                    obtain ⟨_, yy0, rfl⟩ := seen_in rfl h.1
                    have ee0 := getD_of yy0
                    obtain ⟨_, yy1, rfl⟩ := seen_in rfl h.2.1
                    have ee1 := getD_of yy1
                    exact tupon_value (v := .pointer (some ⟨bl, ol + j * 5, none⟩)) (by simp [go_sem, ee0, yy0, ee1, yy1, i4]) (Below.refl _ _) rfl
                  · refine ob_plain [80] rfl rfl fun aa g h => ?_
                    obtain ⟨_, yy0, rfl⟩ := seen_in rfl h.1
                    have ee0 := getD_of yy0
                    exact tupon_value (v := .pointer (some ⟨bl, ol + j * 5, none⟩)) (by simp [go_sem, ee0, yy0]) (Below.refl _ _) rfl
                  · refine ob_plain [81] rfl rfl fun aa g h => ?_
                    obtain ⟨_, yy0, rfl⟩ := seen_in rfl h.1
                    have ee0 := getD_of yy0
                    exact tupon_value (v := .int .i64 op2) (by simp [go_sem, ee0, yy0, fb0 g]) (Below.refl _ _) rfl
                  · refine ob_plain [76, 82] rfl rfl fun aa g h => ?_
                    obtain ⟨_, yy0, rfl⟩ := seen_in rfl h.1
                    have ee0 := getD_of yy0
                    obtain ⟨_, yy1, rfl⟩ := seen_in rfl h.2.1
                    have ee1 := getD_of yy1
                    exact tupon_value (v := .bool true) (by simp [go_sem, ee0, yy0, ee1, yy1, n0]) (Below.refl _ _) rfl
                  · refine ob_plain [83] rfl rfl fun aa g h => ?_
                    obtain ⟨_, yy0, rfl⟩ := seen_in rfl h.1
                    have ee0 := getD_of yy0
                    exact tupon_value (v := .bool true) (by simp [go_sem, ee0, yy0]) (Below.refl _ _) rfl
                  · refine ob_gtrue [5] _ true 84 rfl rfl rfl rfl (fun v w h => h) fun aa g h => ?_
                    have yy0 := seen_out (v := .pointer (some ⟨w3.heap.size, 0, none⟩)) rfl rfl h.1
                    have ee0 := getD_of yy0
                    exact tupon_value (v := .pointer (some ⟨w3.heap.size, 1, none⟩)) (by simp [go_sem, ee0, yy0]) (Below.refl _ _) rfl
                  · refine ob_gtrue [85] _ true 84 rfl rfl rfl rfl (fun v w h => h) fun aa g h => ?_
                    obtain ⟨_, yy0, rfl⟩ := seen_in rfl h.1
                    have ee0 := getD_of yy0
                    exact tupon_value (v := .slice (some ⟨bl, ol, none⟩) D.length c1) (by simp [go_sem, ee0, yy0, d1 g]) (Below.refl _ _) rfl
                  · refine ob_gtrue [8] _ true 84 rfl rfl rfl rfl (fun v w h => h) fun aa g h => ?_
                    have yy0 := seen_out (v := .int .i64 (k : Int)) rfl rfl h.1
                    have ee0 := getD_of yy0
                    exact tupon_value (v := .int .i64 (k : Int)) (by simp [go_sem, ee0, yy0]) (Below.refl _ _) rfl
                  · refine ob_gtrue [86, 87] _ true 84 rfl rfl rfl rfl (fun v w h => h) fun aa g h => ?_
                    obtain ⟨_, yy0, rfl⟩ := seen_in rfl h.1
                    have ee0 := getD_of yy0
                    obtain ⟨_, yy1, rfl⟩ := seen_in rfl h.2.1
                    have ee1 := getD_of yy1
                    exact tupon_value (v := .pointer (some ⟨bl, ol + k * 5, none⟩)) (by simp [go_sem, ee0, yy0, ee1, yy1, i2]) (Below.refl _ _) rfl
                  · refine ob_gtrue [88] _ true 84 rfl rfl rfl rfl (fun v w h => h) fun aa g h => ?_
                    obtain ⟨_, yy0, rfl⟩ := seen_in rfl h.1
                    have ee0 := getD_of yy0
                    exact tupon_value (v := .pointer (some ⟨bl, ol + k * 5 + 1, none⟩)) (by simp [go_sem, ee0, yy0]) (Below.refl _ _) rfl
                  · refine ob_gtrue [89] _ true 84 rfl rfl rfl rfl (fun v w h => h) fun aa g h => ?_
                    obtain ⟨_, yy0, rfl⟩ := seen_in rfl h.1
                    have ee0 := getD_of yy0
                    exact tupon_value (v := .int .i64 a) (by simp [go_sem, ee0, yy0, fa1 g]) (Below.refl _ _) rfl
                  · refine ob_gtrue [5] _ true 84 rfl rfl rfl rfl (fun v w h => h) fun aa g h => ?_
                    have yy0 := seen_out (v := .pointer (some ⟨w3.heap.size, 0, none⟩)) rfl rfl h.1
                    have ee0 := getD_of yy0
                    exact tupon_value (v := .pointer (some ⟨w3.heap.size, 1, none⟩)) (by simp [go_sem, ee0, yy0]) (Below.refl _ _) rfl
                  · refine ob_gtrue [91] _ true 84 rfl rfl rfl rfl (fun v w h => h) fun aa g h => ?_
                    obtain ⟨_, yy0, rfl⟩ := seen_in rfl h.1
                    have ee0 := getD_of yy0
                    exact tupon_value (v := .slice (some ⟨bl, ol, none⟩) D.length c1) (by simp [go_sem, ee0, yy0, d1 g]) (Below.refl _ _) rfl
                  · refine ob_gtrue [9] _ true 84 rfl rfl rfl rfl (fun v w h => h) fun aa g h => ?_
                    have yy0 := seen_out (v := .int .i64 (j : Int)) rfl rfl h.1
                    have ee0 := getD_of yy0
                    exact tupon_value (v := .int .i64 (j : Int)) (by simp [go_sem, ee0, yy0]) (Below.refl _ _) rfl
                  · refine ob_gtrue [92, 93] _ true 84 rfl rfl rfl rfl (fun v w h => h) fun aa g h => ?_
                    obtain ⟨_, yy0, rfl⟩ := seen_in rfl h.1
                    have ee0 := getD_of yy0
                    obtain ⟨_, yy1, rfl⟩ := seen_in rfl h.2.1
                    have ee1 := getD_of yy1
                    exact tupon_value (v := .pointer (some ⟨bl, ol + j * 5, none⟩)) (by simp [go_sem, ee0, yy0, ee1, yy1, i4]) (Below.refl _ _) rfl
                  · refine ob_gtrue [94] _ true 84 rfl rfl rfl rfl (fun v w h => h) fun aa g h => ?_
                    obtain ⟨_, yy0, rfl⟩ := seen_in rfl h.1
                    have ee0 := getD_of yy0
                    exact tupon_value (v := .pointer (some ⟨bl, ol + j * 5 + 1, none⟩)) (by simp [go_sem, ee0, yy0]) (Below.refl _ _) rfl
                  · refine ob_gtrue [95] _ true 84 rfl rfl rfl rfl (fun v w h => h) fun aa g h => ?_
                    obtain ⟨_, yy0, rfl⟩ := seen_in rfl h.1
                    have ee0 := getD_of yy0
                    exact tupon_value (v := .int .i64 a2) (by simp [go_sem, ee0, yy0, fb1 g]) (Below.refl _ _) rfl
                  · refine ob_gtrue [90, 96] _ true 84 rfl rfl rfl rfl (fun v w h => h) fun aa g h => ?_
                    obtain ⟨_, yy0, rfl⟩ := seen_in rfl h.1
                    have ee0 := getD_of yy0
                    obtain ⟨_, yy1, rfl⟩ := seen_in rfl h.2.1
                    have ee1 := getD_of yy1
                    exact tupon_value (v := .bool true) (by simp [go_sem, ee0, yy0, ee1, yy1, n1]) (Below.refl _ _) rfl
                  · refine ob_plain [84, 97] rfl rfl fun aa g h => ?_
                    obtain ⟨_, yy0, rfl⟩ := seen_in rfl h.1
                    have ee0 := getD_of yy0
                    obtain ⟨_, yy1, rfl⟩ := seen_in rfl h.2.1
                    have ee1 := getD_of yy1
                    exact tupon_value (v := .bool true) (by simp [go_sem, ee0, yy0, ee1, yy1]) (Below.refl _ _) rfl
                  · refine ob_plain [98] rfl rfl fun aa g h => ?_
                    obtain ⟨_, yy0, rfl⟩ := seen_in rfl h.1
                    have ee0 := getD_of yy0
                    exact tupon_value (v := .bool true) (by simp [go_sem, ee0, yy0]) (Below.refl _ _) rfl
                  · refine ob_gtrue [5] _ true 99 rfl rfl rfl rfl (fun v w h => h) fun aa g h => ?_
                    have yy0 := seen_out (v := .pointer (some ⟨w3.heap.size, 0, none⟩)) rfl rfl h.1
                    have ee0 := getD_of yy0
                    exact tupon_value (v := .pointer (some ⟨w3.heap.size, 1, none⟩)) (by simp [go_sem, ee0, yy0]) (Below.refl _ _) rfl
                  · refine ob_gtrue [100] _ true 99 rfl rfl rfl rfl (fun v w h => h) fun aa g h => ?_
                    obtain ⟨_, yy0, rfl⟩ := seen_in rfl h.1
                    have ee0 := getD_of yy0
                    exact tupon_value (v := .slice (some ⟨bl, ol, none⟩) D.length c1) (by simp [go_sem, ee0, yy0, d1 g]) (Below.refl _ _) rfl
                  · refine ob_gtrue [8] _ true 99 rfl rfl rfl rfl (fun v w h => h) fun aa g h => ?_
                    have yy0 := seen_out (v := .int .i64 (k : Int)) rfl rfl h.1
                    have ee0 := getD_of yy0
                    exact tupon_value (v := .int .i64 (k : Int)) (by simp [go_sem, ee0, yy0]) (Below.refl _ _) rfl
                  · refine ob_gtrue [101, 102] _ true 99 rfl rfl rfl rfl (fun v w h => h) fun aa g h => ?_
                    obtain ⟨_, yy0, rfl⟩ := seen_in rfl h.1
                    have ee0 := getD_of yy0
                    obtain ⟨_, yy1, rfl⟩ := seen_in rfl h.2.1
                    have ee1 := getD_of yy1
                    exact tupon_value (v := .pointer (some ⟨bl, ol + k * 5, none⟩)) (by simp [go_sem, ee0, yy0, ee1, yy1, i2]) (Below.refl _ _) rfl
                  · refine ob_gtrue [103] _ true 99 rfl rfl rfl rfl (fun v w h => h) fun aa g h => ?_
                    obtain ⟨_, yy0, rfl⟩ := seen_in rfl h.1
                    have ee0 := getD_of yy0
                    exact tupon_value (v := .pointer (some ⟨bl, ol + k * 5 + 2, none⟩)) (by simp [go_sem, ee0, yy0]) (Below.refl _ _) rfl
                  · refine ob_gtrue [104] _ true 99 rfl rfl rfl rfl (fun v w h => h) fun aa g h => ?_
                    obtain ⟨_, yy0, rfl⟩ := seen_in rfl h.1
                    have ee0 := getD_of yy0
                    exact tupon_value (v := .int .i64 b) (by simp [go_sem, ee0, yy0, fa2 g]) (Below.refl _ _) rfl
                  · refine ob_gtrue [5] _ true 99 rfl rfl rfl rfl (fun v w h => h) fun aa g h => ?_
                    have yy0 := seen_out (v := .pointer (some ⟨w3.heap.size, 0, none⟩)) rfl rfl h.1
                    have ee0 := getD_of yy0
                    exact tupon_value (v := .pointer (some ⟨w3.heap.size, 1, none⟩)) (by simp [go_sem, ee0, yy0]) (Below.refl _ _) rfl
                  · refine ob_gtrue [106] _ true 99 rfl rfl rfl rfl (fun v w h => h) fun aa g h => ?_
                    obtain ⟨_, yy0, rfl⟩ := seen_in rfl h.1
                    have ee0 := getD_of yy0
                    exact tupon_value (v := .slice (some ⟨bl, ol, none⟩) D.length c1) (by simp [go_sem, ee0, yy0, d1 g]) (Below.refl _ _) rfl
                  · refine ob_gtrue [9] _ true 99 rfl rfl rfl rfl (fun v w h => h) fun aa g h => ?_
                    have yy0 := seen_out (v := .int .i64 (j : Int)) rfl rfl h.1
                    have ee0 := getD_of yy0
                    exact tupon_value (v := .int .i64 (j : Int)) (by simp [go_sem, ee0, yy0]) (Below.refl _ _) rfl
                  · refine ob_gtrue [107, 108] _ true 99 rfl rfl rfl rfl (fun v w h => h) fun aa g h => ?_
                    obtain ⟨_, yy0, rfl⟩ := seen_in rfl h.1
                    have ee0 := getD_of yy0
                    obtain ⟨_, yy1, rfl⟩ := seen_in rfl h.2.1
                    have ee1 := getD_of yy1
                    exact tupon_value (v := .pointer (some ⟨bl, ol + j * 5, none⟩)) (by simp [go_sem, ee0, yy0, ee1, yy1, i4]) (Below.refl _ _) rfl
                  · refine ob_gtrue [109] _ true 99 rfl rfl rfl rfl (fun v w h => h) fun aa g h => ?_
                    obtain ⟨_, yy0, rfl⟩ := seen_in rfl h.1
                    have ee0 := getD_of yy0
                    exact tupon_value (v := .pointer (some ⟨bl, ol + j * 5 + 2, none⟩)) (by simp [go_sem, ee0, yy0]) (Below.refl _ _) rfl
                  · refine ob_gtrue [110] _ true 99 rfl rfl rfl rfl (fun v w h => h) fun aa g h => ?_
                    obtain ⟨_, yy0, rfl⟩ := seen_in rfl h.1
                    have ee0 := getD_of yy0
                    exact tupon_value (v := .int .i64 b2) (by simp [go_sem, ee0, yy0, fb2 g]) (Below.refl _ _) rfl
                  · refine ob_gtrue [105, 111] _ true 99 rfl rfl rfl rfl (fun v w h => h) fun aa g h => ?_
                    obtain ⟨_, yy0, rfl⟩ := seen_in rfl h.1
                    have ee0 := getD_of yy0
                    obtain ⟨_, yy1, rfl⟩ := seen_in rfl h.2.1
                    have ee1 := getD_of yy1
                    exact tupon_value (v := .bool true) (by simp [go_sem, ee0, yy0, ee1, yy1, n2]) (Below.refl _ _) rfl
                  · refine ob_plain [99, 112] rfl rfl fun aa g h => ?_
                    obtain ⟨_, yy0, rfl⟩ := seen_in rfl h.1
                    have ee0 := getD_of yy0
                    obtain ⟨_, yy1, rfl⟩ := seen_in rfl h.2.1
                    have ee1 := getD_of yy1
                    exact tupon_value (v := .bool true) (by simp [go_sem, ee0, yy0, ee1, yy1]) (Below.refl _ _) rfl
                  · refine ob_plain [113] rfl rfl fun aa g h => ?_
                    obtain ⟨_, yy0, rfl⟩ := seen_in rfl h.1
                    have ee0 := getD_of yy0
                    exact tupon_value (v := .bool true) (by simp [go_sem, ee0, yy0]) (Below.refl _ _) rfl
                  · refine ob_gtrue [5] _ true 114 rfl rfl rfl rfl (fun v w h => h) fun aa g h => ?_
                    have yy0 := seen_out (v := .pointer (some ⟨w3.heap.size, 0, none⟩)) rfl rfl h.1
                    have ee0 := getD_of yy0
                    exact tupon_value (v := .pointer (some ⟨w3.heap.size, 1, none⟩)) (by simp [go_sem, ee0, yy0]) (Below.refl _ _) rfl
                  · refine ob_gtrue [115] _ true 114 rfl rfl rfl rfl (fun v w h => h) fun aa g h => ?_
                    obtain ⟨_, yy0, rfl⟩ := seen_in rfl h.1
                    have ee0 := getD_of yy0
                    exact tupon_value (v := .slice (some ⟨bl, ol, none⟩) D.length c1) (by simp [go_sem, ee0, yy0, d1 g]) (Below.refl _ _) rfl
                  · refine ob_gtrue [8] _ true 114 rfl rfl rfl rfl (fun v w h => h) fun aa g h => ?_
                    have yy0 := seen_out (v := .int .i64 (k : Int)) rfl rfl h.1
                    have ee0 := getD_of yy0
                    exact tupon_value (v := .int .i64 (k : Int)) (by simp [go_sem, ee0, yy0]) (Below.refl _ _) rfl
                  · refine ob_gtrue [116, 117] _ true 114 rfl rfl rfl rfl (fun v w h => h) fun aa g h => ?_
                    obtain ⟨_, yy0, rfl⟩ := seen_in rfl h.1
                    have ee0 := getD_of yy0
                    obtain ⟨_, yy1, rfl⟩ := seen_in rfl h.2.1
                    have ee1 := getD_of yy1
                    exact tupon_value (v := .pointer (some ⟨bl, ol + k * 5, none⟩)) (by simp [go_sem, ee0, yy0, ee1, yy1, i2]) (Below.refl _ _) rfl
                  · refine ob_gtrue [118] _ true 114 rfl rfl rfl rfl (fun v w h => h) fun aa g h => ?_
                    obtain ⟨_, yy0, rfl⟩ := seen_in rfl h.1
                    have ee0 := getD_of yy0
                    exact tupon_value (v := .pointer (some ⟨bl, ol + k * 5 + 3, none⟩)) (by simp [go_sem, ee0, yy0]) (Below.refl _ _) rfl
                  · refine ob_gtrue [119] _ true 114 rfl rfl rfl rfl (fun v w h => h) fun aa g h => ?_
                    obtain ⟨_, yy0, rfl⟩ := seen_in rfl h.1
                    have ee0 := getD_of yy0
                    exact tupon_value (v := .agg #[.int .i64 lo', .int .i64 hi']) (by simp [go_sem, ee0, yy0, fa3 g, fa4 g]) (Below.refl _ _) rfl
                  · refine ob_gtrue [5] _ true 114 rfl rfl rfl rfl (fun v w h => h) fun aa g h => ?_
                    have yy0 := seen_out (v := .pointer (some ⟨w3.heap.size, 0, none⟩)) rfl rfl h.1
                    have ee0 := getD_of yy0
                    exact tupon_value (v := .pointer (some ⟨w3.heap.size, 1, none⟩)) (by simp [go_sem, ee0, yy0]) (Below.refl _ _) rfl
                  · refine ob_gtrue [121] _ true 114 rfl rfl rfl rfl (fun v w h => h) fun aa g h => ?_
                    obtain ⟨_, yy0, rfl⟩ := seen_in rfl h.1
                    have ee0 := getD_of yy0
                    exact tupon_value (v := .slice (some ⟨bl, ol, none⟩) D.length c1) (by simp [go_sem, ee0, yy0, d1 g]) (Below.refl _ _) rfl
                  · refine ob_gtrue [9] _ true 114 rfl rfl rfl rfl (fun v w h => h) fun aa g h => ?_
                    have yy0 := seen_out (v := .int .i64 (j : Int)) rfl rfl h.1
                    have ee0 := getD_of yy0
                    exact tupon_value (v := .int .i64 (j : Int)) (by simp [go_sem, ee0, yy0]) (Below.refl _ _) rfl
                  · refine ob_gtrue [122, 123] _ true 114 rfl rfl rfl rfl (fun v w h => h) fun aa g h => ?_
                    obtain ⟨_, yy0, rfl⟩ := seen_in rfl h.1
                    have ee0 := getD_of yy0
                    obtain ⟨_, yy1, rfl⟩ := seen_in rfl h.2.1
                    have ee1 := getD_of yy1
                    exact tupon_value (v := .pointer (some ⟨bl, ol + j * 5, none⟩)) (by simp [go_sem, ee0, yy0, ee1, yy1, i4]) (Below.refl _ _) rfl
                  · refine ob_gtrue [124] _ true 114 rfl rfl rfl rfl (fun v w h => h) fun aa g h => ?_
                    obtain ⟨_, yy0, rfl⟩ := seen_in rfl h.1
                    have ee0 := getD_of yy0
                    exact tupon_value (v := .pointer (some ⟨bl, ol + j * 5 + 3, none⟩)) (by simp [go_sem, ee0, yy0]) (Below.refl _ _) rfl
                  · refine ob_gtrue [125] _ true 114 rfl rfl rfl rfl (fun v w h => h) fun aa g h => ?_
                    obtain ⟨_, yy0, rfl⟩ := seen_in rfl h.1
                    have ee0 := getD_of yy0
                    exact tupon_value (v := .agg #[.int .i64 lo2, .int .i64 hi2]) (by simp [go_sem, ee0, yy0, fb3 g, fb4 g]) (Below.refl _ _) rfl
                  · refine ob_gtrue [120, 126] _ true 114 rfl rfl rfl rfl (fun v w h => h) fun aa g h => ?_
                    obtain ⟨_, yy0, rfl⟩ := seen_in rfl h.1
                    have ee0 := getD_of yy0
                    obtain ⟨_, yy1, rfl⟩ := seen_in rfl h.2.1
                    have ee1 := getD_of yy1
                    refine tupon_enter (f := 29) (args := #[.agg #[.int .i64 lo', .int .i64 hi'], .agg #[.int .i64 lo2, .int .i64 hi2]]) (by simp [go_sem, ee0, yy0, ee1, yy1]) rfl ?_
                    exact (KS.out g.w).mono fun e w' ⟨he, hB⟩ => ⟨_, he, hB, rfl⟩
                  · refine ob_plain [114, 127] rfl rfl fun aa g h => ?_
                    obtain ⟨_, yy0, rfl⟩ := seen_in rfl h.1
                    have ee0 := getD_of yy0
                    obtain ⟨_, yy1, rfl⟩ := seen_in rfl h.2.1
                    have ee1 := getD_of yy1
                    exact tupon_value (v := .bool false) (by simp [go_sem, ee0, yy0, ee1, yy1]) (Below.refl _ _) rfl
                rintro w9 hB9 _ rfl _ rfl _ rfl _ rfl _ rfl _ rfl _ rfl _ rfl _ rfl _ rfl _ rfl _ rfl _ rfl _ rfl _ rfl _ rfl _ rfl _ rfl _ rfl _ rfl _ rfl _ rfl _ rfl _ rfl _ rfl _ rfl _ rfl _ rfl _ rfl _ rfl _ rfl _ rfl _ rfl _ rfl _ rfl _ rfl _ rfl _ rfl _ rfl _ rfl _ rfl _ rfl _ rfl _ rfl _ rfl _ rfl _ rfl _ rfl _ rfl _ rfl _ rfl _ rfl _ rfl _ rfl _ rfl _ rfl _ rfl _ rfl
                simp only [Act.put, List.setIfInBounds_toArray, List.set_cons_succ, List.set_cons_zero, List.filterMap_nil, finP]
                have HR9 := Lib.hid (HR.out.grow hB9)
                have HBn := Lib.hid (HB.out.trans (hB9.mono HB.out.size))
                clear fa0 fa1 fa2 fa3 fa4 fb0 fb1 fb2 fb3 fb4 d1 hB9
                go_wp2_with (fail)
                go_roundw
                case rel => exact ⟨j + 1, by go_num, by omega, HR9, HBn⟩
                case measure => simp [intOf]; omega
            · obtain rfl : k = j := by omega
              have i3 : ¬ (k : Int) < k := by omega
              have x1 := heapN_cellj (HDB.out.grow HB.out) (k := 1) rfl
              obtain ⟨f0, f1, f2, f3, f4⟩ := HRD.out ⟨wr, HB.out⟩
              dsimp only at f0 f1 f2 f3 f4
              rcases HOC.out with hoc | hoc | hoc
              ·
                have hr := HRA.out
                rw [hoc.2.1] at hr
                rw [hr] at KA
                clear HOC
                have HOC := Lib.hid hoc.1
                clear hoc hr
                go_wp2_with (fail)
                refine (KA.out _).mono ?_
                rintro e w10 ⟨rfl, hB⟩
                replace HR := Lib.hid (HR.out.grow hB)
                replace HB := Lib.hid (HB.out.trans (hB.mono HB.out.size))
                clear hB x1 f0 f1 f2 f3 f4
                have x1 := heapN_cellj (HDB.out.grow HB.out) (k := 1) rfl
                obtain ⟨f0, f1, f2, f3, f4⟩ := HRD.out ⟨w10, HB.out⟩
                dsimp only at f0 f1 f2 f3 f4
                go_wp2_with (fail)
                refine (KA.out _).mono ?_
                rintro e w11 ⟨rfl, hB⟩
                replace HR := Lib.hid (HR.out.grow hB)
                replace HB := Lib.hid (HB.out.trans (hB.mono HB.out.size))
                clear hB x1 f0 f1 f2 f3 f4
                have x1 := heapN_cellj (HDB.out.grow HB.out) (k := 1) rfl
                obtain ⟨f0, f1, f2, f3, f4⟩ := HRD.out ⟨w11, HB.out⟩
                dsimp only at f0 f1 f2 f3 f4
                go_wp2_with (fail)
                go_roundw
                case rel => exact ⟨k + 1, p, by go_num, by omega, HR, HO2, Lib.hid (fun j x hj hx y hy => by
                  by_cases e : j = k
                  · subst e
                    rw [HX.out] at hx
                    cases hx
                    rw [HOC.out] at hy
                    cases hy
                  · exact HU.out j x (by omega) hx y hy), HB⟩
                case measure => simp [intOf]; omega
              ·
                have hr := HRA.out
                rw [hoc.2.1] at hr
                rw [hr] at KA
                clear HOC
                have hab := hoc.2.2.2.2
                obtain ⟨m, rfl⟩ : ∃ m : Nat, a = m := ⟨a.toNat, by omega⟩
                have i5 : (m : Int) < D.length := by omega
                have hmD : m < D.length := by omega
                have HOC := Lib.hid hoc.1
                clear hoc hr hab
                go_wp2_with (fail)
                refine (KA.out _).mono ?_
                rintro e w10 ⟨rfl, hB⟩
                replace HR := Lib.hid (HR.out.grow hB)
                replace HB := Lib.hid (HB.out.trans (hB.mono HB.out.size))
                clear hB x1 f0 f1 f2 f3 f4
                have x1 := heapN_cellj (HDB.out.grow HB.out) (k := 1) rfl
                obtain ⟨f0, f1, f2, f3, f4⟩ := HRD.out ⟨w10, HB.out⟩
                dsimp only at f0 f1 f2 f3 f4
                obtain ⟨c0, z0⟩ := HR.out.get hmD
                replace HR := Lib.hid (HR.out.put hmD)
                have HB0 := HB
                replace HB := Lib.hid (HB.out.setCell (p := ⟨w6.heap.size, m, none⟩) (Nat.le_refl _) (.bool true))
                have y1 := heapN_cellj (HDB.out.grow HB.out) (k := 1) rfl
                obtain ⟨g0, g1, g2, g3, g4⟩ := HRD.out ⟨_, HB.out⟩
                dsimp only at g0 g1 g2 g3 g4
                go_wp2_with (fail)
                refine (KA.out _).mono ?_
                rintro e w11 ⟨rfl, hB⟩
                replace HR := Lib.hid (HR.out.grow hB)
                replace HB := Lib.hid (HB.out.trans (hB.mono HB.out.size))
                clear hB x1 f0 f1 f2 f3 f4 y1 g0 g1 g2 g3 g4 HB0 c0 z0
                have x1 := heapN_cellj (HDB.out.grow HB.out) (k := 1) rfl
                obtain ⟨f0, f1, f2, f3, f4⟩ := HRD.out ⟨w11, HB.out⟩
                dsimp only at f0 f1 f2 f3 f4
                go_wp2_with (fail)
                go_roundw
                case rel => exact ⟨k + 1, _, by go_num, by omega, HR, Lib.hid (fun y hy => by simp [HO2.out y hy]), Lib.hid (fun j x hj hx y hy => by
                  by_cases e : j = k
                  · subst e
                    rw [HX.out] at hx
                    cases hx
                    rw [HOC.out] at hy
                    simp only [List.mem_cons, List.not_mem_nil, or_false] at hy
                    subst hy
                    simp
                  · simp [HU.out j x (by omega) hx y hy]), HB⟩
                case measure => simp [intOf]; omega
              ·
                have hr := HRA.out
                rw [hoc.2.1] at hr
                rw [hr] at KA
                clear HOC
                have hab := hoc.2.2.2
                obtain ⟨m, rfl⟩ : ∃ m : Nat, a = m := ⟨a.toNat, by omega⟩
                obtain ⟨q, rfl⟩ : ∃ q : Nat, b = q := ⟨b.toNat, by omega⟩
                have i5 : (m : Int) < D.length := by omega
                have i6 : (q : Int) < D.length := by omega
                have hmD : m < D.length := by omega
                have hqD : q < D.length := by omega
                have HOC := Lib.hid hoc.1
                clear hoc hr hab
                go_wp2_with (fail)
                refine (KA.out _).mono ?_
                rintro e w10 ⟨rfl, hB⟩
                replace HR := Lib.hid (HR.out.grow hB)
                replace HB := Lib.hid (HB.out.trans (hB.mono HB.out.size))
                clear hB x1 f0 f1 f2 f3 f4
                have x1 := heapN_cellj (HDB.out.grow HB.out) (k := 1) rfl
                obtain ⟨f0, f1, f2, f3, f4⟩ := HRD.out ⟨w10, HB.out⟩
                dsimp only at f0 f1 f2 f3 f4
                obtain ⟨c0, z0⟩ := HR.out.get hmD
                replace HR := Lib.hid (HR.out.put hmD)
                have HB0 := HB
                replace HB := Lib.hid (HB.out.setCell (p := ⟨w6.heap.size, m, none⟩) (Nat.le_refl _) (.bool true))
                have y1 := heapN_cellj (HDB.out.grow HB.out) (k := 1) rfl
                obtain ⟨g0, g1, g2, g3, g4⟩ := HRD.out ⟨_, HB.out⟩
                dsimp only at g0 g1 g2 g3 g4
                go_wp2_with (fail)
                refine (KA.out _).mono ?_
                rintro e w11 ⟨rfl, hB⟩
                replace HR := Lib.hid (HR.out.grow hB)
                replace HB := Lib.hid (HB.out.trans (hB.mono HB.out.size))
                clear hB x1 f0 f1 f2 f3 f4 y1 g0 g1 g2 g3 g4 HB0 c0 z0
                have x1 := heapN_cellj (HDB.out.grow HB.out) (k := 1) rfl
                obtain ⟨f0, f1, f2, f3, f4⟩ := HRD.out ⟨w11, HB.out⟩
                dsimp only at f0 f1 f2 f3 f4
                obtain ⟨c0, z0⟩ := HR.out.get hqD
                replace HR := Lib.hid (HR.out.put hqD)
                replace HB := Lib.hid (HB.out.setCell (p := ⟨w6.heap.size, q, none⟩) (Nat.le_refl _) (.bool true))
                go_wp2_with (fail)
                go_roundw
                case rel => exact ⟨k + 1, _, by go_num, by omega, HR, Lib.hid (fun y hy => by simp [HO2.out y hy]), Lib.hid (fun j x hj hx y hy => by
                  by_cases e : j = k
                  · subst e
                    rw [HX.out] at hx
                    cases hx
                    rw [HOC.out] at hy
                    simp only [List.mem_cons, List.not_mem_nil, or_false] at hy
                    rcases hy with rfl | rfl <;> simp
                  · simp [HU.out j x (by omega) hx y hy]), HB⟩
                case measure => simp [intOf]; omega
        · obtain rfl : k = D.length := by omega
          have i2 : ¬ (D.length : Int) < D.length := by omega
          have HALL : Hid (∀ m : Nat, m < D.length → p m = true) := Lib.hid (fun m hm => by
            rcases HOF.out.used m hm with h | ⟨j, x, hj, hy⟩
            · exact HO2.out m h
            · exact HU.out j x (List.getElem?_eq_some_iff.1 hj).1 hj m hy)
          clear HO2 HU
          go_wp2_with (fail)
          go_loopw [10] (fun i wr => ∃ (k : Nat), i = .int .i64 k ∧ k ≤ D.length ∧ Hid (BoR w6.heap.size w6.heap.size D.length p wr) ∧ Hid (Below w6.heap.size w6 wr)) (fun i _ => D.length - (intOf i).toNat)
          case atStart => exact ⟨0, rfl, Nat.zero_le _, HR, HB⟩
          case round =>
            clear HR HB x1 i2
            obtain ⟨k, rfl, hk, HR, HB⟩ := hrel
            by_cases hlt : k < D.length
            · have i2 : (k : Int) < D.length := by omega
              have hc := (HR.out.get hlt).1
              rw [HALL.out k hlt] at hc
              go_wp2_with (fail)
              go_roundw
              case rel => exact ⟨k + 1, by go_num, by omega, HR, HB⟩
              case measure => simp [intOf]; omega
            · obtain rfl : k = D.length := by omega
              have i2 : ¬ (D.length : Int) < D.length := by omega
              have HT := Lib.hid (below_then HW.out HB.out)
              go_wp2_with (fail)
              go_ret
              exact ⟨rfl, HT.out⟩
end Go.Proofs.Ytajddejeglhbhaa
