/-
  The law of round trips between tapes and expressions.
-/
import Derived.Test.YtajddejeglhbhaaQk
namespace Go.Proofs.Ytajddejeglhbhaa
open Go.ChangeShapes Go.WideShapes Go.ChangeAt Go.RowKit Go.Maps
set_option linter.unusedVariables false
set_option linter.unusedSimpArgs false
set_option maxRecDepth 100000
attribute [local irreducible] Calls
/-- What decompiling a compiled list gives. -/
theorem comp_dec {N : Int} {ts : List Ex} (ht : ∀ t ∈ ts, EV N t) (h200 : ∀ t ∈ ts, (pre t).length ≤ 200) : (compT ts []).2.map (rowD (compT ts []).1) = ts.map pre := by
  have hv : VL N (compT ts []).1 := compT_vl ht (fun k x hx => by simp at hx)
  have hl := comp_len ts []
  apply List.ext_getElem?
  intro i
  rw [List.getElem?_map, List.getElem?_map]
  rcases h : ts[i]? with _ | t
  · rw [List.getElem?_eq_none_iff] at h
    rw [List.getElem?_eq_none_iff.2 (by omega)]
    rfl
  · obtain ⟨k, h1, h2, h3⟩ := comp_tr ht h
    rw [h1]
    show some (rowD _ (k : Int)) = some (pre t)
    rw [row_tr hv h2, h3, if_pos (h200 t (List.mem_of_getElem? h))]
theorem sys_dec {N : Int} {T : List Is} {O : List Int} (hv : VL N T) (hO : ∀ y ∈ O, 0 ≤ y ∧ y < T.length) : (compT (O.map (sysT T)) []).2.map (rowD (compT (O.map (sysT T)) []).1) = O.map (rowS T) := by
  rw [sys_rows hv hO]
  refine comp_dec (sys_ev hv hO) (fun t ht => ?_)
  rw [List.mem_map] at ht
  obtain ⟨y, _, rfl⟩ := ht
  exact sys_200 y
theorem sys_full {N : Int} {T : List Is} {O : List Int} (hv : VL N T) (hO : ∀ y ∈ O, 0 ≤ y ∧ y < T.length) (hf : ∀ y ∈ O, rowD T y ≠ []) : O.map (rowD T) = O.map (rowS T) ∧ optL T O = compT (O.map (sysT T)) [] := by
  constructor
  · apply List.map_congr_left
    intro y hy
    unfold rowS
    rw [if_neg (hf y hy)]
  · unfold optL
    congr 1
    apply List.map_congr_left
    intro y hy
    have h1 := hO y hy
    obtain ⟨i, rfl⟩ : ∃ i : Nat, y = i := ⟨y.toNat, by omega⟩
    have h2 := hf _ hy
    rw [row_tr hv (by omega)] at h2
    unfold sysT
    by_cases hl : (pre (trL T T.length i)).length ≤ 200
    · rw [if_pos hl]
    · rw [if_neg hl] at h2
      exact absurd rfl h2
theorem cut_tape {P : Program} {f : FuncId} {args : Array Value} {w : World} {n : Value} {C : List Is} {oc : List Int} (h : Calls P f args w fun e w' => ∃ u r, e = .returned (.agg #[n, u, r]) ∧ Ix w' u C ∧ Px w' r oc ∧ Below w.heap.size w w') :
    Calls P f args w fun e w' => ∃ p q c d, e = .returned (.agg #[n, .slice p C.length c, .slice q oc.length d]) ∧ Ix w' (.slice p C.length c) C ∧ Px w' (.slice q oc.length d) oc ∧ Below w.heap.size w w' := by
  refine h.mono ?_
  rintro e w' ⟨u, r, rfl, h1, h2, h3⟩
  obtain ⟨p, c, rfl⟩ := h1.cut
  obtain ⟨q, d, rfl⟩ := h2.cut
  exact ⟨p, q, c, d, rfl, h1, h2, h3⟩
set_option maxHeartbeats 32000000 in
theorem tround (w : World) (vL vO vX : Value) (n0 lo hi : Int) (Lr : List Is) (outr : List Int) (Xr : List (Int × Int)) (hL : Ix w vL Lr ∧ ∀ x ∈ Lr, IW x) (hO : Px w vO outr ∧ ∀ x ∈ outr, W64 x) (hX : Vx w vX Xr ∧ ∀ q ∈ Xr, W64 q.1 ∧ W64 q.2) (hn : W64 n0) (hlo : W64 lo) (hhi : W64 hi) :
    Calls Try.prog 5 #[.agg #[.int .i64 n0, vL, vO, vX, .int .i64 lo, .int .i64 hi]] w fun e w' => e = .returned (.bool true) ∧ Below w.heap.size w w' := by
  obtain ⟨pl, cl, rfl⟩ := hL.1.cut
  obtain ⟨po, co, rfl⟩ := hO.1.cut
  obtain ⟨px, cx, rfl⟩ := hX.1.cut
  have hE : Below w.heap.size w (w.alloc (.cells #[.int .i64 n0, .slice pl Lr.length cl, .slice po outr.length co, .slice px Xr.length cx, .int .i64 lo, .int .i64 hi] 30)) := (Below.refl _ _).alloc (Nat.le_refl _) _
  have HQ := Lib.hid (show Blk (w.alloc (.cells #[.int .i64 n0, .slice pl Lr.length cl, .slice po outr.length co, .slice px Xr.length cx, .int .i64 lo, .int .i64 hi] 30)) w.heap.size (.cells #[.int .i64 n0, .slice pl Lr.length cl, .slice po outr.length co, .slice px Xr.length cx, .int .i64 lo, .int .i64 hi] 30) from World.alloc_heap_new w _)
  have HL := Lib.hid (hL.1.grow hE)
  have HO := Lib.hid (hO.1.grow hE)
  have HW := Lib.hid hE
  clear hE hL hO hX hn hlo hhi
  go_enter Try.func5, Try.ntmps5
  go_wp2_with (fail)
  refine (sanity8 _).mono ?_
  rintro e w1 ⟨rfl, hB⟩
  have HQ := Lib.hid (HQ.out.grow hB)
  have HL := Lib.hid (HL.out.grow hB)
  have HO := Lib.hid (HO.out.grow hB)
  have HW := Lib.hid (below_then HW.out hB)
  clear hB
  have q0 := heapN_cellj HQ.out (k := 0) rfl
  have q1 := heapN_cellj HQ.out (k := 1) rfl
  have q2 := heapN_cellj HQ.out (k := 2) rfl
  go_wp2_with (fail)
  refine (made8_ok n0 _ _ Lr outr 25 _ HL.out HO.out (by decide) (by decide)).mono ?_
  rintro e w2 ⟨N, T, O, u, r, rfl, hu, hr, htv, hN3, hT1, hT25, hB⟩
  have HTV := Lib.hid htv
  obtain ⟨hn1, hn6, h400, hon, hvl, hout⟩ := tv_cases htv
  have HV := Lib.hid (show VL N T from hvl)
  have HOUT := Lib.hid hout
  obtain ⟨m, hm⟩ : ∃ m, O.length = m := ⟨_, rfl⟩
  have hNm : N = m := by omega
  subst hNm
  have HM := Lib.hid hm
  have hut := Rx.own encI_len hu (by unfold maxLen; omega)
  have hro := Rx.own (enc := enc1) (fun _ => rfl) hr (by unfold maxLen; omega)
  obtain ⟨pu, cu, rfl⟩ := hut.cut
  obtain ⟨pr, cr', hrr⟩ := hro.cut
  rw [hm] at hrr
  subst hrr
  have hS : Below w2.heap.size w2 (w2.alloc (.cells #[.int .i64 N, .slice pu T.length cu, .slice pr N cr'] 25)) := (Below.refl _ _).alloc (Nat.le_refl _) _
  have HC := Lib.hid (show Blk (w2.alloc (.cells #[.int .i64 N, .slice pu T.length cu, .slice pr N cr'] 25)) w2.heap.size (.cells #[.int .i64 N, .slice pu T.length cu, .slice pr N cr'] 25) from World.alloc_heap_new w2 _)
  have HUT := Lib.hid (hut.grow hS)
  have HRO := Lib.hid (hro.grow hS)
  have HW := Lib.hid (below_then (below_then HW.out hB) hS)
  clear hB hu hr htv q0 q1 q2 HQ HL HO hon hm hn1 hn6 h400 hvl hout hut hro hS
  go_wp2_with (fail)
  refine (system_ok N _ _ T O _ HUT.out HRO.out HTV.out (by omega)).mono ?_
  rintro e w3 ⟨pn, cn, vf, rfl, hsx, hcn, hlx, hB⟩
  obtain ⟨pf, cf, hvf⟩ := hlx.cut
  rw [List.length_map, HM.out] at hvf
  subst hvf
  rw [HM.out] at hsx hcn ⊢
  have hS : Below w3.heap.size w3 (w3.alloc (.cells #[.slice pn N cn, .slice pf N cf] 38)) := (Below.refl _ _).alloc (Nat.le_refl _) _
  have HS := Lib.hid (show Blk (w3.alloc (.cells #[.slice pn N cn, .slice pf N cf] 38)) w3.heap.size (.cells #[.slice pn N cn, .slice pf N cf] 38) from World.alloc_heap_new w3 _)
  have HC := Lib.hid ((HC.out.grow hB).grow hS)
  have HUT := Lib.hid ((HUT.out.grow hB).grow hS)
  have HRO := Lib.hid ((HRO.out.grow hB).grow hS)
  have HSX := Lib.hid (hsx.grow hS)
  have HLX := Lib.hid (hlx.grow grows_nxo hS)
  have HW := Lib.hid (below_then (below_then HW.out hB) hS)
  have q0 := heapN_cellj (HC.out) (k := 0) rfl
  have q1 := heapN_cellj (HC.out) (k := 1) rfl
  have q2 := heapN_cellj (HC.out) (k := 2) rfl
  have hlt3 : w2.heap.size < w3.heap.size := by have h := hB.size; rw [alloc_sz] at h; omega
  have p0 : w3.cell? ⟨w2.heap.size, 0, none⟩ = some (.int .i64 N) := by
    have h := (hS.block w2.heap.size hlt3).symm.trans HC.out
    exact heapN_cellj h (k := 0) rfl
  have p1 : w3.cell? ⟨w2.heap.size, 1, none⟩ = some (.slice pu T.length cu) := by
    have h := (hS.block w2.heap.size hlt3).symm.trans HC.out
    exact heapN_cellj h (k := 1) rfl
  have p2 : w3.cell? ⟨w2.heap.size, 2, none⟩ = some (.slice pr N cr') := by
    have h := (hS.block w2.heap.size hlt3).symm.trans HC.out
    exact heapN_cellj h (k := 2) rfl
  clear hB hS hsx hlx
  go_wp2_with (fail)
  refine (dec_at N _ _ T O (O.map (rowD T)) _ HUT.out HRO.out HTV.out rfl).mono ?_
  rintro e w4 ⟨ur, rfl, hrw, hB⟩
  obtain ⟨pq, cq, hur⟩ := hrw.cut
  rw [List.length_map, HM.out] at hur
  subst hur
  have HS := Lib.hid (HS.out.grow hB)
  have HC := Lib.hid (HC.out.grow hB)
  have HUT := Lib.hid (HUT.out.grow hB)
  have HRO := Lib.hid (HRO.out.grow hB)
  have HSX := Lib.hid (HSX.out.grow hB)
  have HLX := Lib.hid (HLX.out.grow grows_nxo hB)
  have HRW := Lib.hid hrw
  have HW := Lib.hid (below_then HW.out hB)
  have KC := Lib.hid (fun w vf a b => sys_compile pn cn vf T O N w HTV.out hN3 (by omega) a (by rw [HM.out]; exact hcn) b)
  have hcf := cmpF HTV.out (by omega)
  have hsd := sys_dec HV.out HOUT.out
  obtain ⟨⟨C, oc⟩, hC⟩ : ∃ R, compT (O.map (sysT T)) [] = R := ⟨_, rfl⟩
  rw [hC] at KC hcf hsd
  rw [HM.out] at KC hcf
  dsimp only at KC hcf hsd
  have HCF := Lib.hid hcf
  have HSD := Lib.hid hsd
  have HCE := Lib.hid hC
  clear hB q0 q1 q2 p0 p1 p2 hrw hcf hsd hC
  go_wp2_with (fail)
  have k0 := fun g : Grown w4 => heapN_cellj (HC.out.grow g.h) (k := 0) rfl
  have s0 := fun g : Grown w4 => heapN_cellj (HS.out.grow g.h) (k := 0) rfl
  have s1 := fun g : Grown w4 => heapN_cellj (HS.out.grow g.h) (k := 1) rfl
  refine region_pred (lk [(16, fun z_ _ => z_ = .slice pq N cq), (17, fun z_ _ => z_ = .int .i64 N), (18, fun z_ _ => z_ = .pointer (some ⟨w2.heap.size, 0, none⟩)), (19, fun z_ _ => z_ = .int .i64 N), (20, fun z_ _ => z_ = .bool false), (21, fun z_ _ => z_ = .bool false), (22, fun z_ _ => z_ = .agg #[.slice pn N cn, .slice pf N cf]), (23, fun z_ w' => ∃ p_ q_ c_ d_, z_ = .agg #[.int .i64 N, .slice p_ C.length c_, .slice q_ oc.length d_] ∧ Ix w' (.slice p_ C.length c_) C ∧ Px w' (.slice q_ oc.length d_) oc), (24, fun z_ w' => Lx NxO w' z_ (O.map (rowS T))), (25, fun z_ _ => z_ = .pointer (some ⟨w3.heap.size, 1, none⟩)), (26, fun z_ _ => z_ = .slice pf N cf), (27, fun z_ _ => z_ = .bool true), (28, fun z_ _ => z_ = .bool false), (29, fun z_ _ => z_ = .bool false)]) (by kernel_rfl) (by kernel_rfl) (lk_steady _ ⟨steady_eq _, steady_eq _, steady_eq _, steady_eq _, steady_eq _, steady_eq _, steady_eq _, fun u w1 w2 hb ⟨p, q, c, d, e, h1, h2⟩ => ⟨p, q, c, d, e, h1.grow hb, h2.grow hb⟩, fun u w1 w2 hb h => h.grow grows_nxo hb, steady_eq _, steady_eq _, steady_eq _, steady_eq _, steady_eq _, trivial⟩) ?_ ?_
  · refine ⟨?_, ?_, ?_, ?_, ?_, ?_, ?_, ?_, ?_, ?_, ?_, ?_, ?_, ?_, trivial⟩
    · refine ob_plain [6] rfl rfl fun aa g h => ?_
      have yy0 := seen_out (v := .slice pq N cq) rfl rfl h.1
      have ee0 := getD_of yy0
      exact tupon_value (v := .slice pq N cq) (by simp [go_sem, ee0, yy0]) (Below.refl _ _) rfl
    · refine ob_plain [16] rfl rfl fun aa g h => ?_
      obtain ⟨_, yy0, rfl⟩ := seen_in rfl h.1
      have ee0 := getD_of yy0
      exact tupon_value (v := .int .i64 N) (by simp [go_sem, ee0, yy0]) (Below.refl _ _) rfl
    · refine ob_plain [4] rfl rfl fun aa g h => ?_
      have yy0 := seen_out (v := .pointer (some ⟨w2.heap.size, 0, none⟩)) rfl rfl h.1
      have ee0 := getD_of yy0
      exact tupon_value (v := .pointer (some ⟨w2.heap.size, 0, none⟩)) (by simp [go_sem, ee0, yy0]) (Below.refl _ _) rfl
    · refine ob_plain [18] rfl rfl fun aa g h => ?_
      obtain ⟨_, yy0, rfl⟩ := seen_in rfl h.1
      have ee0 := getD_of yy0
      exact tupon_value (v := .int .i64 N) (by simp [go_sem, ee0, yy0, k0 g]) (Below.refl _ _) rfl
    · refine ob_plain [17, 19] rfl rfl fun aa g h => ?_
      obtain ⟨_, yy0, rfl⟩ := seen_in rfl h.1
      have ee0 := getD_of yy0
      obtain ⟨_, yy1, rfl⟩ := seen_in rfl h.2.1
      have ee1 := getD_of yy1
      exact tupon_value (v := .bool false) (by simp [go_sem, ee0, yy0, ee1, yy1]) (Below.refl _ _) rfl
    · refine ob_plain [20] rfl rfl fun aa g h => ?_
      obtain ⟨_, yy0, rfl⟩ := seen_in rfl h.1
      have ee0 := getD_of yy0
      exact tupon_value (v := .bool false) (by simp [go_sem, ee0, yy0]) (Below.refl _ _) rfl
    · refine ob_gtrue [5] _ false 21 rfl rfl rfl rfl (fun v w h => h) fun aa g h => ?_
      have yy0 := seen_out (v := .pointer (some ⟨w3.heap.size, 0, none⟩)) rfl rfl h.1
      have ee0 := getD_of yy0
      exact tupon_value (v := .agg #[.slice pn N cn, .slice pf N cf]) (by simp [go_sem, ee0, yy0, s0 g, s1 g]) (Below.refl _ _) rfl
    · refine ob_gtrue [22] _ false 21 rfl rfl rfl rfl (fun v w h => h) fun aa g h => ?_
      obtain ⟨_, yy0, rfl⟩ := seen_in rfl h.1
      have ee0 := getD_of yy0
      refine tupon_enter (f := 17) (args := #[.agg #[.slice pn N cn, .slice pf N cf]]) (by simp [go_sem, ee0, yy0]) rfl ?_
      exact (cut_tape (KC.out g.w (.slice pf N cf) (HSX.out.grow g.h) (HLX.out.grow grows_nxo g.h))).mono fun e w' ⟨p, q, c, d, he, hi, hp, hB⟩ => ⟨_, he, hB, ⟨p, q, c, d, rfl, hi, hp⟩⟩
    · refine ob_gtrue [23] _ false 21 rfl rfl rfl rfl (fun v w h => h) fun aa g h => ?_
      obtain ⟨_, yy0, ⟨p23, q23, c23, d23, rfl, hi23, hp23⟩⟩ := seen_in rfl h.1
      have ee0 := getD_of yy0
      refine tupon_enter (f := 24) (args := #[.agg #[.int .i64 N, .slice p23 C.length c23, .slice q23 oc.length d23]]) (by simp [go_sem, ee0, yy0]) rfl ?_
      exact (dec_at N _ _ C oc (O.map (rowS T)) g.w hi23 hp23 HCF.out.val HSD.out).mono fun e w' ⟨u9, he, hv, hB⟩ => ⟨_, he, hB, hv⟩
    · refine ob_gtrue [5] _ false 21 rfl rfl rfl rfl (fun v w h => h) fun aa g h => ?_
      have yy0 := seen_out (v := .pointer (some ⟨w3.heap.size, 0, none⟩)) rfl rfl h.1
      have ee0 := getD_of yy0
      exact tupon_value (v := .pointer (some ⟨w3.heap.size, 1, none⟩)) (by simp [go_sem, ee0, yy0]) (Below.refl _ _) rfl
    · refine ob_gtrue [25] _ false 21 rfl rfl rfl rfl (fun v w h => h) fun aa g h => ?_
      obtain ⟨_, yy0, rfl⟩ := seen_in rfl h.1
      have ee0 := getD_of yy0
      exact tupon_value (v := .slice pf N cf) (by simp [go_sem, ee0, yy0, s1 g]) (Below.refl _ _) rfl
    · refine ob_gtrue [24, 26] _ false 21 rfl rfl rfl rfl (fun v w h => h) fun aa g h => ?_
      obtain ⟨z24, yy0, hv24⟩ := seen_in rfl h.1
      have ee0 := getD_of yy0
      obtain ⟨_, yy1, rfl⟩ := seen_in rfl h.2.1
      have ee1 := getD_of yy1
      refine tupon_enter (f := 25) (args := #[z24, .slice pf N cf]) (by simp [go_sem, ee0, yy0, ee1, yy1]) rfl ?_
      exact (samerows_ok _ _ _ g.w hv24 (HLX.out.grow grows_nxo g.h)).mono fun e w' ⟨he, hB⟩ => ⟨_, he, hB, rfl⟩
    · refine ob_gtrue [27] _ false 21 rfl rfl rfl rfl (fun v w h => h) fun aa g h => ?_
      obtain ⟨_, yy0, rfl⟩ := seen_in rfl h.1
      have ee0 := getD_of yy0
      exact tupon_value (v := .bool false) (by simp [go_sem, ee0, yy0]) (Below.refl _ _) rfl
    · refine ob_plain [21, 28] rfl rfl fun aa g h => ?_
      obtain ⟨_, yy0, rfl⟩ := seen_in rfl h.1
      have ee0 := getD_of yy0
      obtain ⟨_, yy1, rfl⟩ := seen_in rfl h.2.1
      have ee1 := getD_of yy1
      exact tupon_value (v := .bool false) (by simp [go_sem, ee0, yy0, ee1, yy1]) (Below.refl _ _) rfl
  rintro w6 hB _ rfl _ rfl _ rfl _ rfl _ rfl _ rfl _ rfl _ ⟨p23, q23, c23, d23, rfl, hi23, hp23⟩ z24 hv24 _ rfl _ rfl _ rfl _ rfl _ rfl
  simp only [Act.put, List.setIfInBounds_toArray, List.set_cons_succ, List.set_cons_zero, List.filterMap_nil, finP]
  have HC := Lib.hid (HC.out.grow hB)
  have HS := Lib.hid (HS.out.grow hB)
  have HUT := Lib.hid (HUT.out.grow hB)
  have HRO := Lib.hid (HRO.out.grow hB)
  have HSX := Lib.hid (HSX.out.grow hB)
  have HRW := Lib.hid (HRW.out.grow grows_nxo hB)
  have HW := Lib.hid (below_then HW.out hB)
  clear hB k0 s0 s1 hv24 hi23 hp23 HLX
  go_wp2_with (fail)
  go_loopw [7] (fun i wr => ∃ k : Nat, i = .int .i64 k ∧ k ≤ N ∧ Hid (∀ j y, j < k → O[j]? = some y → rowD T y ≠ []) ∧ Hid (Below w6.heap.size w6 wr)) (fun i _ => N - (intOf i).toNat)
  case atStart => exact ⟨0, rfl, Nat.zero_le _, Lib.hid (fun j y h => by omega), Lib.hid (Below.refl _ _)⟩
  case round =>
    obtain ⟨k, rfl, hk, HF, HB⟩ := hrel
    have l0 := heapN_cellj (HC.out.grow HB.out) (k := 0) rfl
    by_cases hlt : k < N
    · have i2 : (k : Int) < N := by omega
      obtain ⟨y, hy⟩ : ∃ y, O[k]? = some y := ⟨_, List.getElem?_eq_getElem (by rw [HM.out]; exact hlt)⟩
      have hrk : (O.map (rowD T))[k]? = some (rowD T y) := by rw [List.getElem?_map, hy]; rfl
      obtain ⟨bq, oq, uu, rfl, hbq, rdq⟩ := HRW.out.rd grows_nxo hrk
      obtain ⟨f0, f1, f2⟩ := rdq ⟨wr, HB.out⟩
      obtain ⟨py, cy, rfl⟩ := f2.1.1.cut
      obtain ⟨rr, hrr⟩ : ∃ r, rowD T y = r := ⟨_, rfl⟩
      rw [hrr] at f1
      dsimp only at f1
      have HY := Lib.hid hy
      have HRR := Lib.hid hrr
      clear hrk rdq f2 f0 hy hrr
      by_cases hr0 : rr.length = 0
      · have i4 : ((rr.length : Int) == 0) = true := by simp [hr0]
        have HR0 := Lib.hid hr0
        clear hr0
        go_wp2_with (fail)
        go_ret
        exact ⟨rfl, below_then HW.out HB.out⟩
      · have i4 : ((rr.length : Int) == 0) = false := by simpa using (show (rr.length : Int) ≠ 0 by omega)
        have HR0 := Lib.hid hr0
        clear hr0
        go_wp2_with (fail)
        go_roundw
        case rel => exact ⟨k + 1, by go_num, by omega, Lib.hid (fun j z hj hz => by
          by_cases e : j = k
          · subst e
            rw [HY.out] at hz
            cases hz
            rw [HRR.out]
            intro h
            exact HR0.out (by rw [h]; rfl)
          · exact HF.out j z (by omega) hz), HB⟩
        case measure => simp [intOf]; omega
    · obtain rfl : N = k := by omega
      have i2 : ¬ (N : Int) < N := by omega
      have hful : ∀ y ∈ O, rowD T y ≠ [] := fun y hy => by
        obtain ⟨j, hj⟩ := List.getElem?_of_mem hy
        exact HF.out j y (by have := (List.getElem?_eq_some_iff.1 hj).1; have := HM.out; omega) hj
      obtain ⟨hfa, hfb⟩ := sys_full HV.out HOUT.out hful
      rw [HCE.out] at hfb
      have HFB := Lib.hid hfb
      have hr2 := HRW.out.grow grows_nxo HB.out
      rw [hfa] at hr2
      have HR2 := Lib.hid hr2
      have HUT := Lib.hid (HUT.out.grow HB.out)
      have HRO := Lib.hid (HRO.out.grow HB.out)
      have HSX := Lib.hid (HSX.out.grow HB.out)
      have HC := Lib.hid (HC.out.grow HB.out)
      have HS := Lib.hid (HS.out.grow HB.out)
      clear hful hfa hfb hr2
      go_wp2_with (fail)
      have k0 := fun g : Grown wr => heapN_cellj (HC.out.grow g.h) (k := 0) rfl
      have k1 := fun g : Grown wr => heapN_cellj (HC.out.grow g.h) (k := 1) rfl
      have k2 := fun g : Grown wr => heapN_cellj (HC.out.grow g.h) (k := 2) rfl
      have s0 := fun g : Grown wr => heapN_cellj (HS.out.grow g.h) (k := 0) rfl
      refine region_pred (lk [(43, fun z_ _ => z_ = .pointer (some ⟨w3.heap.size, 0, none⟩)), (44, fun z_ _ => z_ = .slice pn N cn), (45, fun z_ _ => z_ = .slice pq N cq), (46, fun z_ _ => z_ = .agg #[.slice pn N cn, .slice pq N cq]), (47, fun z_ w' => ∃ p_ q_ c_ d_, z_ = .agg #[.int .i64 N, .slice p_ C.length c_, .slice q_ oc.length d_] ∧ Ix w' (.slice p_ C.length c_) C ∧ Px w' (.slice q_ oc.length d_) oc), (48, fun z_ _ => z_ = .agg #[.int .i64 N, .slice pu T.length cu, .slice pr N cr']), (49, fun z_ w' => ∃ p_ q_ c_ d_, z_ = .agg #[.int .i64 N, .slice p_ C.length c_, .slice q_ oc.length d_] ∧ Ix w' (.slice p_ C.length c_) C ∧ Px w' (.slice q_ oc.length d_) oc), (50, fun z_ _ => z_ = .bool true), (51, fun z_ _ => z_ = .bool true), (52, fun z_ _ => z_ = .bool true), (53, fun z_ _ => z_ = .bool true), (2, fun z_ _ => z_ = .bool true)]) (by kernel_rfl) (by kernel_rfl) (lk_steady _ ⟨steady_eq _, steady_eq _, steady_eq _, steady_eq _, fun u w1 w2 hb ⟨p, q, c, d, e, h1, h2⟩ => ⟨p, q, c, d, e, h1.grow hb, h2.grow hb⟩, steady_eq _, fun u w1 w2 hb ⟨p, q, c, d, e, h1, h2⟩ => ⟨p, q, c, d, e, h1.grow hb, h2.grow hb⟩, steady_eq _, steady_eq _, steady_eq _, steady_eq _, steady_eq _, trivial⟩) ?_ ?_
      · refine ⟨?_, ?_, ?_, ?_, ?_, ?_, ?_, ?_, ?_, ?_, ?_, ?_, trivial⟩
        · refine ob_plain [5] rfl rfl fun aa g h => ?_
          have yy0 := seen_out (v := .pointer (some ⟨w3.heap.size, 0, none⟩)) rfl rfl h.1
          have ee0 := getD_of yy0
          exact tupon_value (v := .pointer (some ⟨w3.heap.size, 0, none⟩)) (by simp [go_sem, ee0, yy0]) (Below.refl _ _) rfl
        · refine ob_plain [43] rfl rfl fun aa g h => ?_
          obtain ⟨_, yy0, rfl⟩ := seen_in rfl h.1
          have ee0 := getD_of yy0
          exact tupon_value (v := .slice pn N cn) (by simp [go_sem, ee0, yy0, s0 g]) (Below.refl _ _) rfl
        · refine ob_plain [6] rfl rfl fun aa g h => ?_
          have yy0 := seen_out (v := .slice pq N cq) rfl rfl h.1
          have ee0 := getD_of yy0
          exact tupon_value (v := .slice pq N cq) (by simp [go_sem, ee0, yy0]) (Below.refl _ _) rfl
        · refine ob_plain [44, 45] rfl rfl fun aa g h => ?_
          obtain ⟨_, yy0, rfl⟩ := seen_in rfl h.1
          have ee0 := getD_of yy0
          obtain ⟨_, yy1, rfl⟩ := seen_in rfl h.2.1
          have ee1 := getD_of yy1
          exact tupon_value (v := .agg #[.slice pn N cn, .slice pq N cq]) (by simp [go_sem, ee0, yy0, ee1, yy1]) (Below.refl _ _) rfl
        · refine ob_plain [46] rfl rfl fun aa g h => ?_
          obtain ⟨_, yy0, rfl⟩ := seen_in rfl h.1
          have ee0 := getD_of yy0
          refine tupon_enter (f := 17) (args := #[.agg #[.slice pn N cn, .slice pq N cq]]) (by simp [go_sem, ee0, yy0]) rfl ?_
          exact (cut_tape (KC.out g.w (.slice pq N cq) (HSX.out.grow g.h) (HR2.out.grow grows_nxo g.h))).mono fun e w' ⟨p, q, c, d, he, hi, hp, hB⟩ => ⟨_, he, hB, ⟨p, q, c, d, rfl, hi, hp⟩⟩
        · refine ob_plain [4] rfl rfl fun aa g h => ?_
          have yy0 := seen_out (v := .pointer (some ⟨w2.heap.size, 0, none⟩)) rfl rfl h.1
          have ee0 := getD_of yy0
          exact tupon_value (v := .agg #[.int .i64 N, .slice pu T.length cu, .slice pr N cr']) (by simp [go_sem, ee0, yy0, k0 g, k1 g, k2 g]) (Below.refl _ _) rfl
        · refine ob_plain [48] rfl rfl fun aa g h => ?_
          obtain ⟨_, yy0, rfl⟩ := seen_in rfl h.1
          have ee0 := getD_of yy0
          refine tupon_enter (f := 19) (args := #[.agg #[.int .i64 N, .slice pu T.length cu, .slice pr N cr']]) (by simp [go_sem, ee0, yy0]) rfl ?_
          exact (cut_tape (opt_at N _ _ T C O oc g.w (HUT.out.grow g.h) (HRO.out.grow g.h) HTV.out HFB.out)).mono fun e w' ⟨p, q, c, d, he, hi, hp, hB⟩ => ⟨_, he, hB, ⟨p, q, c, d, rfl, hi, hp⟩⟩
        · refine ob_plain [47, 49] rfl rfl fun aa g h => ?_
          obtain ⟨_, yy0, ⟨p47, q47, c47, d47, rfl, hi47, hp47⟩⟩ := seen_in rfl h.1
          have ee0 := getD_of yy0
          obtain ⟨_, yy1, ⟨p49, q49, c49, d49, rfl, hi49, hp49⟩⟩ := seen_in rfl h.2.1
          have ee1 := getD_of yy1
          refine tupon_enter (f := 26) (args := #[.agg #[.int .i64 N, .slice p47 C.length c47, .slice q47 oc.length d47], .agg #[.int .i64 N, .slice p49 C.length c49, .slice q49 oc.length d49]]) (by simp [go_sem, ee0, yy0, ee1, yy1]) rfl ?_
          exact (tsame_ok N _ _ _ _ C oc g.w hi47 hp47 hi49 hp49).mono fun e w' ⟨he, hB⟩ => ⟨_, he, hB, rfl⟩
        · refine ob_plain [50] rfl rfl fun aa g h => ?_
          obtain ⟨_, yy0, rfl⟩ := seen_in rfl h.1
          have ee0 := getD_of yy0
          exact tupon_value (v := .bool true) (by simp [go_sem, ee0, yy0]) (Below.refl _ _) rfl
        · refine ob_gtrue [3] _ true 51 rfl rfl rfl rfl (fun v w h => h) fun aa g h => ?_
          have yy0 := seen_out (v := .bool true) rfl rfl h.1
          have ee0 := getD_of yy0
          exact tupon_value (v := .bool true) (by simp [go_sem, ee0, yy0]) (Below.refl _ _) rfl
        · refine ob_plain [51, 52] rfl rfl fun aa g h => ?_
          obtain ⟨_, yy0, rfl⟩ := seen_in rfl h.1
          have ee0 := getD_of yy0
          obtain ⟨_, yy1, rfl⟩ := seen_in rfl h.2.1
          have ee1 := getD_of yy1
          exact tupon_value (v := .bool true) (by simp [go_sem, ee0, yy0, ee1, yy1]) (Below.refl _ _) rfl
        · refine ob_plain [53] rfl rfl fun aa g h => ?_
          obtain ⟨_, yy0, rfl⟩ := seen_in rfl h.1
          have ee0 := getD_of yy0
          exact tupon_value (v := .bool true) (by simp [go_sem, ee0, yy0]) (Below.refl _ _) rfl
      rintro w8 hB _ rfl _ rfl _ rfl _ rfl _ ⟨p47, q47, c47, d47, rfl, hi47, hp47⟩ _ rfl _ ⟨p49, q49, c49, d49, rfl, hi49, hp49⟩ _ rfl _ rfl _ rfl _ rfl _ rfl
      simp only [Act.put, List.setIfInBounds_toArray, List.set_cons_succ, List.set_cons_zero, List.filterMap_nil, finP]
      have HT := Lib.hid (below_then (below_then HW.out HB.out) hB)
      go_wp2_with (fail)
      go_ret
      exact ⟨rfl, HT.out⟩
end Go.Proofs.Ytajddejeglhbhaa
