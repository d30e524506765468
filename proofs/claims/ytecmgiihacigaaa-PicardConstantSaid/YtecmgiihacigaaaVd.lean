/-
  Package picard: the boxes that are tried, each with its image.
-/
import Derived.Test.YtecmgiihacigaaaVc
import Derived.Test.YtecmgiihacigaaaRf
namespace Go.Proofs.Ytecmgiihacigaaa
open Go.ChangeShapes Go.WideShapes Go.ChangeAt Go.RowKit Go.Shelf
set_option linter.unusedVariables false
set_option linter.unusedSimpArgs false
set_option maxRecDepth 100000
attribute [local go_sem] Oper.semAt_some
attribute [local irreducible] Calls
theorem cell_cells {W : World} {b i : Nat} {u : Value} (h : W.cell? ⟨b, i, none⟩ = some u) : ∃ cs t z, W.heap[b]? = some (.cells cs t z) := by
  unfold World.cell? at h
  dsimp only at h
  split at h
  · exact ⟨_, _, _, by assumption⟩
  · cases h
theorem vx_row {W W' : World} {v : Value} {l : List (Int × Int)} {k : Nat} (h : Vx W v l) (hg : W.grownBy W' (some k)) (hk : ∃ o : Obj, W.heap[k]? = some o ∧ o.isCells = false) : Vx W' v l := by
  obtain ⟨h1, p, c, rfl, h2⟩ := h
  refine ⟨h1, p, c, rfl, fun i x hx => ?_⟩
  obtain ⟨b, o, rfl, h3, h4⟩ := h2 i x hx
  refine ⟨b, o, rfl, Nat.lt_of_lt_of_le h3 hg.size, fun j u hu => ?_⟩
  have hc := h4 j u hu
  refine hg.cell hc ?_
  intro e
  obtain rfl : b = k := Option.some.inj e
  obtain ⟨cs, t, z, hb⟩ := cell_cells hc
  obtain ⟨ob, ho, hn⟩ := hk
  rw [hb] at ho
  obtain rfl := Option.some.inj ho
  cases hn
theorem vx_put {W : World} {v : Value} {l : List (Int × Int)} {k : Nat} {o o' : Obj} (h : Vx W v l) (hk : W.heap[k]? = some o) (hn : o.isCells = false) : Vx (W.putObj k o') v l := vx_row h (grownBy_putObj' W k o') ⟨o, hk, hn⟩
/-- The hulls that the search comes to. -/
def hsq (img : List (Int × Int) → List (Int × Int)) (X : List (Int × Int)) : Nat → List (Int × Int)
  | 0 => hulL X (img X)
  | i + 1 => hulL (infL (hsq img X i)) (img (infL (hsq img X i)))
theorem hsq_ok {img : List (Int × Int) → List (Int × Int)} {X : List (Int × Int)} (hX : ∀ p ∈ X, VI p.1 p.2) (hi : ∀ B : List (Int × Int), B.length = X.length → (∀ p ∈ B, VI p.1 p.2) → (img B).length = X.length ∧ ∀ p ∈ img B, VI p.1 p.2) :
    ∀ i, (hsq img X i).length = X.length ∧ ∀ p ∈ hsq img X i, VI p.1 p.2
  | 0 => ⟨by show (hulL X (img X)).length = _; rw [hul_len (by rw [(hi X rfl hX).1])], hul_vi hX (hi X rfl hX).2⟩
  | i + 1 => by
    obtain ⟨h1, h2⟩ := hsq_ok hX hi i
    have h3 : (infL (hsq img X i)).length = X.length := by rw [inf_len, h1]
    obtain ⟨h4, h5⟩ := hi _ h3 (inf_vi h2)
    exact ⟨by show (hulL _ _).length = _; rw [hul_len (by rw [h3, h4]), h3], hul_vi (inf_vi h2) h5⟩
theorem hull_vx (va vb : Value) (la lb : List (Int × Int)) (w : World) (hva : Vx w va la) (hvb : Vx w vb lb) (hlen : lb.length = la.length) (h1 : ∀ p ∈ la, VI p.1 p.2) (h2 : ∀ p ∈ lb, VI p.1 p.2) (hsm : la.length ≤ 6) :
    Calls Try.prog 61 #[va, vb] w fun e W' => ∃ v, e = .returned v ∧ Vx W' v (hulL la lb) ∧ Below w.heap.size w W' :=
  ((callsIn_wide (n := 5)).1 (hull_in 5 (by decide) va vb la lb w (vx_bx hva) (vx_bx hvb) hlen (fun z hz => ⟨h1 _ (List.of_mem_zip hz).1, h2 _ (List.of_mem_zip hz).2⟩) (by omega))).mono fun e W' ⟨v, he, hv, hB⟩ => ⟨v, he, bx_vx hv, hB⟩
/-- The image, as a slice. -/
theorem image_vx (N T H : Int) (vl vo vx vb : Value) (L : List Is) (O : List Int) (X B : List (Int × Int)) (w : World) (hl : Ix w vl L) (ho : Px w vo O) (hx : Vx w vx X) (hb : Vx w vb B) (htv : tvB N L O = true) (hXN : (X.length : Int) = N) (hBN : (B.length : Int) = N) (hvx : ∀ p ∈ X, VI p.1 p.2) (hvb : ∀ p ∈ B, VI p.1 p.2) (ht1 : -1048576 ≤ T) (ht2 : T ≤ 1048576) (h0 : 0 ≤ H) (h1 : H ≤ 1000000) :
    Calls Try.prog 17 #[.agg #[.int .i64 N, vl, vo], vx, vb, .agg #[.int .i64 T, .int .i64 H]] w fun e w' => ∃ u, e = .returned u ∧ Vx w' u (imgT L O T H X B) ∧ Below w.heap.size w w' := by
  have hlen : (imgT L O T H X B).length = X.length := imgT_len htv hXN
  obtain ⟨_, hn6, _, _, _, _⟩ := tv_cases htv
  refine (image_ok N T H vl vo vx vb L O X B _ w hl ho hx hb htv hXN hBN hvx hvb ht1 ht2 h0 h1 rfl).mono fun e w' ⟨p, c, he, hown, hB⟩ => ⟨_, he, ?_, hB⟩
  have h := hown
  rw [← hlen] at h
  have h2 := Rx.own encB_len h (by rw [hlen]; unfold maxLen; omega)
  rwa [hlen] at h2
theorem inf_vx (vx : Value) (X : List (Int × Int)) (w : World) (hx : Vx w vx X) (hsm : X.length ≤ 6) (hvx : ∀ p ∈ X, VI p.1 p.2) :
    Calls Try.prog 62 #[vx] w fun e w' => ∃ u, e = .returned u ∧ Vx w' u (infL X) ∧ Below w.heap.size w w' := by
  have hlen := inf_len X
  refine (inf_ok vx X _ w hx hsm hvx rfl).mono fun e w' ⟨p, c, he, hown, hB⟩ => ⟨_, he, ?_, hB⟩
  have h := hown
  rw [← hlen] at h
  have h2 := Rx.own encB_len h (by rw [hlen]; unfold maxLen; omega)
  rwa [hlen] at h2
set_option maxHeartbeats 16000000 in
theorem att_seq (n : Nat) (hn : 2 ≤ n) (N T H : Int) (vl vo : Value) (px : Option Addr) (cx : Nat) (L : List Is) (O : List Int) (X : List (Int × Int)) (b1 b2 b3 : Nat) (w : World) (hX1 : Blk w b1 (.cells #[.slice px X.length cx] 26)) (hC1 : Blk w b2 (.cells #[.int .i64 N, vl, vo] 25)) (hS1 : Blk w b3 (.cells #[.int .i64 T, .int .i64 H] 33))
    (hl : Ix w vl L) (ho : Px w vo O) (hx : Vx w (.slice px X.length cx) X) (htv : tvB N L O = true) (hXN : (X.length : Int) = N) (hvx : ∀ p ∈ X, VI p.1 p.2) (ht1 : -1048576 ≤ T) (ht2 : T ≤ 1048576) (h0 : 0 ≤ H) (h1 : H ≤ 1000000) :
    SeqN Try.prog n 60 #[.pointer (some ⟨b1, 0, none⟩), .pointer (some ⟨b2, 0, none⟩), .pointer (some ⟨b3, 0, none⟩)] 8
      (fun i xs W => ∃ v1 v2, xs = #[v1, v2] ∧ Vx W v1 (infL (hsq (imgT L O T H X) X i)) ∧ Vx W v2 (imgT L O T H X (infL (hsq (imgT L O T H X) X i)))) w := by
  intro l J Jx W hW hlw hJl hJB hJxB hY hJ0
  obtain ⟨hn1, hn6, h400, hon, hvl, hout⟩ := tv_cases htv
  have hX6 : X.length ≤ 6 := by omega
  have himg : ∀ B : List (Int × Int), B.length = X.length → (∀ p ∈ B, VI p.1 p.2) → (imgT L O T H X B).length = X.length ∧ ∀ p ∈ imgT L O T H X B, VI p.1 p.2 := fun B hB hv => ⟨imgT_len htv hXN, imgT_vi htv hvx hv ht1 ht2 h0 h1⟩
  have HS := Lib.hid (hsq_ok hvx himg)
  have KI := Lib.hid (fun (vb : Value) (B : List (Int × Int)) (w : World) a b c d (hBl : B.length = X.length) hvb => image_vx N T H vl vo (.slice px X.length cx) vb L O X B w a b c d htv hXN (by rw [hBl]; exact hXN) hvx hvb ht1 ht2 h0 h1)
  have IMG := Lib.hid himg
  have KH := Lib.hid (fun (va vb : Value) (la lb : List (Int × Int)) (w : World) a b (hla : la.length = X.length) (hlb : lb.length = X.length) c d => hull_vx va vb la lb w a b (by rw [hla, hlb]) c d (by omega))
  have KF := Lib.hid (fun (v : Value) (B : List (Int × Int)) (w : World) a (hB : B.length = X.length) b => inf_vx v B w a (by omega) b)
  have HXV := Lib.hid hvx
  have HX := Lib.hid hx
  have HLL := Lib.hid hl
  have HO := Lib.hid ho
  have HX1 := Lib.hid hX1
  have HC1 := Lib.hid hC1
  have HS1 := Lib.hid hS1
  have HW := Lib.hid hW
  have HY := Lib.hid hY
  have HJB := Lib.hid hJB
  have HJL := Lib.hid hJl
  have HJXB := Lib.hid hJxB
  have HJ0 := Lib.hid hJ0
  obtain ⟨img, hig⟩ : ∃ img, imgT L O T H X = img := ⟨_, rfl⟩
  have HIG := Lib.hid hig
  clear hX1 hC1 hS1 hl ho hx hvx htv hXN ht1 ht2 h0 h1 himg hn1 hn6 h400 hon hvl hout hW hY hJB hJl hJxB hJ0 hig
  refine callsIn_of_wp Try.func60 rfl trivial ?_ rfl
  simp only [Try.ntmps60, List.size_toArray, List.length_cons, List.length_nil, Nat.reduceAdd, Nat.reduceSub, Array.replicate_succ, Array.replicate_zero, List.push_toArray, List.append_toArray, List.nil_append, List.cons_append]
  gi_wp2
  have x0 := fun g : Grown W => heapN_cellj (HX1.out.grow (HW.out.trans (g.h.mono HW.out.size))) (k := 0) rfl
  have c0 := fun g : Grown W => heapN_cellj (HC1.out.grow (HW.out.trans (g.h.mono HW.out.size))) (k := 0) rfl
  have c1 := fun g : Grown W => heapN_cellj (HC1.out.grow (HW.out.trans (g.h.mono HW.out.size))) (k := 1) rfl
  have c2 := fun g : Grown W => heapN_cellj (HC1.out.grow (HW.out.trans (g.h.mono HW.out.size))) (k := 2) rfl
  have s0 := fun g : Grown W => heapN_cellj (HS1.out.grow (HW.out.trans (g.h.mono HW.out.size))) (k := 0) rfl
  have s1 := fun g : Grown W => heapN_cellj (HS1.out.grow (HW.out.trans (g.h.mono HW.out.size))) (k := 1) rfl
  have up := fun (g : Grown W) => HW.out.trans (g.h.mono HW.out.size)
  have UP := Lib.hid up
  clear up
  refine region_pred_in (F := Fence.wide) 7 (lk [(8, fun z_ _ => z_ = .slice px X.length cx), (9, fun z_ _ => z_ = .agg #[.int .i64 N, vl, vo]), (10, fun z_ _ => z_ = .slice px X.length cx), (11, fun z_ _ => z_ = .slice px X.length cx), (12, fun z_ _ => z_ = .agg #[.int .i64 T, .int .i64 H]), (13, fun z_ w' => Vx w' z_ (imgT L O T H X X)), (14, fun z_ w' => Vx w' z_ (hulL X (imgT L O T H X X)))]) wide_fn rfl wide_call (by kernel_rfl) (by kernel_rfl) (lk_steady _ ⟨steady_eq _, steady_eq _, steady_eq _, steady_eq _, steady_eq _, fun u w1 w2 hb h => h.grow hb, fun u w1 w2 hb h => h.grow hb, trivial⟩) ?_ ?_
  · refine ⟨?_, ?_, ?_, ?_, ?_, ?_, ?_, trivial⟩
    · refine ob_plain [1] rfl rfl fun aa g h => ?_
      have yy0 := seen_out (v := .pointer (some ⟨b1, 0, none⟩)) rfl rfl h.1
      have ee0 := getD_of yy0
      exact tupon_value (v := .slice px X.length cx) (by simp [go_sem, ee0, yy0, x0 g]) (Below.refl _ _) rfl
    · refine ob_plain [2] rfl rfl fun aa g h => ?_
      have yy0 := seen_out (v := .pointer (some ⟨b2, 0, none⟩)) rfl rfl h.1
      have ee0 := getD_of yy0
      exact tupon_value (v := .agg #[.int .i64 N, vl, vo]) (by simp [go_sem, ee0, yy0, c0 g, c1 g, c2 g]) (Below.refl _ _) rfl
    · refine ob_plain [1] rfl rfl fun aa g h => ?_
      have yy0 := seen_out (v := .pointer (some ⟨b1, 0, none⟩)) rfl rfl h.1
      have ee0 := getD_of yy0
      exact tupon_value (v := .slice px X.length cx) (by simp [go_sem, ee0, yy0, x0 g]) (Below.refl _ _) rfl
    · refine ob_plain [1] rfl rfl fun aa g h => ?_
      have yy0 := seen_out (v := .pointer (some ⟨b1, 0, none⟩)) rfl rfl h.1
      have ee0 := getD_of yy0
      exact tupon_value (v := .slice px X.length cx) (by simp [go_sem, ee0, yy0, x0 g]) (Below.refl _ _) rfl
    · refine ob_plain [3] rfl rfl fun aa g h => ?_
      have yy0 := seen_out (v := .pointer (some ⟨b3, 0, none⟩)) rfl rfl h.1
      have ee0 := getD_of yy0
      exact tupon_value (v := .agg #[.int .i64 T, .int .i64 H]) (by simp [go_sem, ee0, yy0, s0 g, s1 g]) (Below.refl _ _) rfl
    · refine ob_plain [9, 10, 11, 12] rfl rfl fun aa g h => ?_
      obtain ⟨_, yy0, rfl⟩ := seen_in rfl h.1
      have ee0 := getD_of yy0
      obtain ⟨_, yy1, rfl⟩ := seen_in rfl h.2.1
      have ee1 := getD_of yy1
      obtain ⟨_, yy2, rfl⟩ := seen_in rfl h.2.2.1
      have ee2 := getD_of yy2
      obtain ⟨_, yy3, rfl⟩ := seen_in rfl h.2.2.2.1
      have ee3 := getD_of yy3
      refine tupon_enter (f := 17) (args := #[.agg #[.int .i64 N, vl, vo], .slice px X.length cx, .slice px X.length cx, .agg #[.int .i64 T, .int .i64 H]]) (by simp [go_sem, ee0, yy0, ee1, yy1, ee2, yy2, ee3, yy3]) rfl ?_
      exact (KI.out _ X g.w (HLL.out.grow (UP.out g)) (HO.out.grow (UP.out g)) (HX.out.grow (UP.out g)) (HX.out.grow (UP.out g)) rfl HXV.out).mono fun e w' ⟨u9, he, hv, hB⟩ => ⟨_, he, hB, hv⟩
    · refine ob_plain [8, 13] rfl rfl fun aa g h => ?_
      obtain ⟨_, yy0, rfl⟩ := seen_in rfl h.1
      have ee0 := getD_of yy0
      obtain ⟨z13, yy1, hv13⟩ := seen_in rfl h.2.1
      have ee1 := getD_of yy1
      refine tupon_enter (f := 61) (args := #[.slice px X.length cx, z13]) (by simp [go_sem, ee0, yy0, ee1, yy1]) rfl ?_
      exact (KH.out _ _ X _ g.w (HX.out.grow (UP.out g)) hv13 rfl (IMG.out X rfl HXV.out).1 HXV.out (IMG.out X rfl HXV.out).2).mono fun e w' ⟨u9, he, hv, hB⟩ => ⟨_, he, hB, hv⟩
  rintro w5 hB5 _ rfl _ rfl _ rfl _ rfl _ rfl z13 hv13 z14 hv14
  simp only [Act.put, List.setIfInBounds_toArray, List.set_cons_succ, List.set_cons_zero, finP, List.drop_succ_cons, List.drop_zero, List.take_zero, List.filterMap_nil]
  have HV := Lib.hid hv14
  rw [HIG.out] at HV
  have HW5 := Lib.hid (show Below w.heap.size w w5 from UP.out ⟨w5, hB5⟩)
  have HJ5 := Lib.hid (HJB.out 0 _ _ HJ0.out hB5)
  clear hB5 hv13 hv14 x0 c0 c1 c2 s0 s1 HJ0 HW UP
  gi_wp2
  gi_loopw [5, 15] (fun v i wr => ∃ k : Nat, k ≤ 8 ∧ i = .int .i64 k ∧ Hid (Vx wr v (hsq img X k)) ∧ Hid (J k wr) ∧ Hid (Below w.heap.size w wr)) (fun v i _ => 8 - (intOf i).toNat)
  case atStart => exact ⟨0, Nat.zero_le _, rfl, HV, HJ5, HW5⟩
  case round =>
    clear HV HJ5 HW5
    obtain ⟨k, hk, rfl, HV, HJ, HB⟩ := hrel
    by_cases hlt : k < 8
    · have i2 : (k : Int) < 8 := by omega
      obtain ⟨hlk, hvk⟩ := HS.out k
      rw [HIG.out] at hlk hvk
      have hli := inf_len (hsq img X k)
      rw [hlk] at hli
      have hvi := inf_vi hvk
      have him := IMG.out _ hli hvi
      rw [HIG.out] at him
      have KF1 := Lib.hid (fun w a => KF.out u5 _ w a hlk hvk)
      have KI1 := Lib.hid (fun v w a b c d => KI.out v _ w a b c d hli hvi)
      rw [HIG.out] at KI1
      have KH1 := Lib.hid (fun va vb w a b => KH.out va vb _ _ w a b hli him.1 hvi him.2)
      have YY := Lib.hid (fun xs W1 => HY.out k xs W1 hlt)
      rw [HIG.out] at YY
      clear hlk hvk hli hvi him KF KI KH HY
      gi_wp2_with (fail)
      refine ⟨trivial, fun _ => by omega, (callsIn_wide.2 (KF1.out _ HV.out)).mono ?_⟩
      rintro e w6 ⟨v1, rfl, hv1, hB6⟩
      have HV1 := Lib.hid hv1
      have HJ6 := Lib.hid (HJB.out k _ _ HJ.out hB6)
      have HB6 := Lib.hid (HB.out.trans (hB6.mono HB.out.size))
      clear hv1 hB6 HV HJ HB
      have x0 := heapN_cellj (HX1.out.grow HB6.out) (k := 0) rfl
      have c0 := heapN_cellj (HC1.out.grow HB6.out) (k := 0) rfl
      have c1 := heapN_cellj (HC1.out.grow HB6.out) (k := 1) rfl
      have c2 := heapN_cellj (HC1.out.grow HB6.out) (k := 2) rfl
      have s0 := heapN_cellj (HS1.out.grow HB6.out) (k := 0) rfl
      have s1 := heapN_cellj (HS1.out.grow HB6.out) (k := 1) rfl
      gi_wp2_with (fail)
      refine ⟨trivial, fun _ => by omega, (callsIn_wide.2 (KI1.out v1 _ (HLL.out.grow HB6.out) (HO.out.grow HB6.out) (HX.out.grow HB6.out) HV1.out)).mono ?_⟩
      rintro e w7 ⟨v2, rfl, hv2, hB7⟩
      have HV2 := Lib.hid hv2
      have HV1 := Lib.hid (HV1.out.grow hB7)
      have HJ7 := Lib.hid (HJB.out k _ _ HJ6.out hB7)
      have HB7 := Lib.hid (HB6.out.trans (hB7.mono HB6.out.size))
      clear hv2 hB7 HJ6 HB6 x0 c0 c1 c2 s0 s1
      obtain ⟨fn, tmps, assign, body, hy', hR⟩ := YY.out #[v1, v2] w7 HJ7.out ⟨v1, v2, rfl, HV1.out, HV2.out⟩
      have HR := Lib.hid hR
      clear hR
      gi_wp2
      refine ⟨fun _ => by omega, HR.out.mono ?_⟩
      rintro e w8 (⟨rfl, hJ8, hg8⟩ | ⟨rfl, hJ8⟩)
      · have hlo := HJL.out _ _ HJ7.out
        obtain ⟨r, hlr⟩ := hlo
        have HV1 := Lib.hid (vx_row HV1.out hg8 ⟨_, hlr, rfl⟩)
        have HV2 := Lib.hid (vx_row HV2.out hg8 ⟨_, hlr, rfl⟩)
        have HJ8 := Lib.hid hJ8
        have HB8 := Lib.hid (gb_old hg8 hlw HB7.out HB7.out.size)
        clear hJ8 hg8 hlr HB7 HJ7 HR hy'
        gi_wp2_with (fail)
        refine ⟨trivial, fun _ => by omega, (callsIn_wide.2 (KH1.out _ _ _ HV1.out HV2.out)).mono ?_⟩
        rintro e w9 ⟨v3, rfl, hv3, hB9⟩
        have HV3 := Lib.hid hv3
        have HJ9 := Lib.hid (HJB.out _ _ _ HJ8.out hB9)
        have HB9 := Lib.hid (HB8.out.trans (hB9.mono HB8.out.size))
        clear hv3 hB9 HJ8 HB8
        gi_wp2
        go_roundw
        case rel => exact ⟨k + 1, by omega, by go_num, HV3, HJ9, HB9⟩
        case measure => simp [intOf]; omega
      · gi_wp2
        refine bodyPost_ret (results_none rfl _ _ _) rfl ?_
        exact ⟨⟨_, rfl⟩, .inr ⟨_, hJ8⟩⟩
    · obtain rfl : k = 8 := by omega
      have i2 : ¬ ((8 : Nat) : Int) < 8 := by decide
      gi_wp2
      go_end0
      exact ⟨⟨_, rfl⟩, .inl HJ.out⟩
end Go.Proofs.Ytecmgiihacigaaa
