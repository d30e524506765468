/-
  LJs
-/
import Derived.Test.YtbppfohcicepcaaGreatKbze
import Derived.Test.YtbppfohcicepcaaGreatKbzf
import Derived.Test.YtbppfohcicepcaaGreatKbzj
import Derived.Test.YtbppfohcicepcaaGreatKbzk
namespace Go.Proofs.YtbppfohcicepcaaGreat
open Go.ChangeShapes Go.WideShapes Go.ChangeAt Go.RowKit
set_option linter.unusedVariables false
set_option linter.unusedSimpArgs false
set_option maxRecDepth 100000
attribute [local irreducible] Calls
def MdQ (N : Int) (w : World) (z : Value) : Prop := ∃ T q c, z = .slice q (pre T).length c ∧ NxC w (.slice q (pre T).length c) (pre T) ∧ EV N T ∧ (pre T).length < 32
theorem steady_md (N : Int) : Steady (fun v w => MdQ N w v) := fun _ _ _ hb ⟨T, q, c, e, h, r⟩ => ⟨T, q, c, e, grows_nxc _ _ _ _ h hb, r⟩
def BmQ (N : Nat) (w : World) (z : Value) : Prop := ∃ (m : List (Int × Int)) (q : Option Addr) (c : Nat), z = .slice q m.length c ∧ Vx w (.slice q m.length c) m ∧ m.length = N ∧ ∀ p ∈ m, VI p.1 p.2
theorem steady_bm (N : Nat) : Steady (fun v w => BmQ N w v) := fun _ _ _ hb ⟨m, q, c, e, h, r⟩ => ⟨m, q, c, e, h.grow hb, r⟩
theorem made7_q (N : Int) (hn : 1 ≤ N ∧ N ≤ 6) (vr : Value) (Rw : List Nd) (w : World) (hr : NxC w vr Rw) : Calls Tryz.prog 11 #[vr, .int .i64 30, .int .i64 N] w fun e w' => ∃ z, e = .returned z ∧ MdQ N w' z ∧ Below w.heap.size w w' := by
  refine (Made7w_ok N hn 30 (by omega) vr Rw w hr).mono ?_
  rintro e w3 ⟨v, T, rfl, hown, hEV, hlen, hB3⟩
  have hnx := nxc_own hown (by unfold maxLen; omega)
  obtain ⟨pv, cv, rfl⟩ := own_slice hown
  exact ⟨_, rfl, ⟨T, pv, cv, rfl, hnx, hEV, hlen⟩, hB3⟩
theorem made3_q (N : Nat) (hn : N ≤ 6) (v : Value) (l : List (Int × Int)) (w : World) (hv : Vx w v l) (hb : ∀ q ∈ l, W64 q.1 ∧ W64 q.2) : Calls Tryz.prog 12 #[v, .int .i64 (N : Int)] w fun e w' => ∃ z, e = .returned z ∧ BmQ N w' z ∧ Below w.heap.size w w' := by
  refine (r3made v l N w (vx_bx' hv) hn (fun p hp => by obtain ⟨h1, h2⟩ := hb p hp; unfold W64 at h1 h2; omega)).mono ?_
  rintro e w3 ⟨u, m, rfl, hm, hvb, hbx, hB3⟩
  obtain ⟨p, c, rfl⟩ := (bx_vx' hbx).cut
  exact ⟨_, rfl, ⟨m, p, c, rfl, bx_vx' hbx, hm, hvb⟩, hB3⟩
theorem nxc_set {w w' : World} {X : Nat} {u0 u1 : Value} {t : TypeId} (hX : w.heap[X]? = some (.cells #[u0, u1] t (0, 0))) (hO : Oth X w w') {v : Value} {l : List Nd} (h : NxC w v l) : NxC w' v l := by
  obtain ⟨⟨h1, p, c, e, hk⟩, h2⟩ := h
  refine ⟨⟨h1, p, c, e, fun i x hx => ?_⟩, h2⟩
  obtain ⟨b, o, e1, hb, h5⟩ := hk i x hx
  refine ⟨b, o, e1, Nat.lt_of_lt_of_le hb hO.size, fun j u hj => ?_⟩
  have hne : b ≠ X := by
    rintro rfl
    have h3 := h5 3 _ rfl
    simp only [World.cell?, hX] at h3
    have := (Array.getElem?_eq_some_iff.1 h3).1
    simp at this
    omega
  exact (World.cell?_of_block (a := ⟨b, o + i * 4 + j, none⟩) (hO.blk _ hb hne)).trans (h5 j u hj)
theorem vx_set {w w' : World} {X : Nat} {u0 u1 : Value} {t : TypeId} {t1 t2 : Int} (hX : w.heap[X]? = some (.cells #[u0, u1] t (0, 0))) (hX' : w'.heap[X]? = some (.cells #[.int .i64 t1, .int .i64 t2] t (0, 0))) (hO : Oth X w w') (hv : VI t1 t2) {p : Option Addr} {c : Nat} {m : List (Int × Int)} (h : Vx w (.slice p m.length c) m) (hm : ∀ q ∈ m, VI q.1 q.2) :
    ∃ m' : List (Int × Int), m'.length = m.length ∧ Vx w' (.slice p m.length c) m' ∧ ∀ q ∈ m', VI q.1 q.2 := by
  obtain ⟨h1, p', c', e, hk⟩ := h
  simp only [Value.slice.injEq] at e
  obtain ⟨rfl, _, rfl⟩ := e
  by_cases hq : ∃ o, p = some ⟨X, o, none⟩ ∧ m ≠ []
  · obtain ⟨o, rfl, hne⟩ := hq
    match m, hne, h1, hk, hm with
    | [x], _, _, hk, _ =>
      obtain ⟨b, o', e1, hb, h5⟩ := hk 0 x rfl
      simp only [Option.some.injEq, Addr.mk.injEq, and_true] at e1
      obtain ⟨rfl, rfl⟩ := e1
      have h3 := h5 1 _ rfl
      simp only [World.cell?, hX] at h3
      have ho := (Array.getElem?_eq_some_iff.1 h3).1
      simp at ho
      obtain rfl : o = 0 := by omega
      have hlt := (Array.getElem?_eq_some_iff.1 hX').1
      refine ⟨[(t1, t2)], rfl, ⟨by simp [maxLen], _, _, rfl, fun i y hy => ?_⟩, fun q hq => by simp at hq; subst hq; exact hv⟩
      match i, hy with
      | 0, hy =>
        cases hy
        refine ⟨X, 0, rfl, hlt, fun j u hj => ?_⟩
        have hj2 : j < 2 := by have := (List.getElem?_eq_some_iff.1 hj).1; simpa [encB] using this
        match j, hj2, hj with
        | 0, _, hj => cases hj; exact heapN_cellj hX' (k := 0) rfl
        | 1, _, hj => cases hj; exact heapN_cellj hX' (k := 1) rfl
      | i + 1, hy => simp at hy
    | x :: y :: r, _, _, hk, _ =>
      obtain ⟨b, o', e1, hb, h5⟩ := hk 1 y rfl
      simp only [Option.some.injEq, Addr.mk.injEq, and_true] at e1
      obtain ⟨rfl, rfl⟩ := e1
      have h3 := h5 1 _ rfl
      simp only [World.cell?, hX] at h3
      have ho := (Array.getElem?_eq_some_iff.1 h3).1
      simp at ho
      omega
  · refine ⟨m, rfl, ⟨h1, p, c, rfl, fun i x hx => ?_⟩, hm⟩
    obtain ⟨b, o, e1, hb, h5⟩ := hk i x hx
    have hne : b ≠ X := by
      rintro rfl
      exact hq ⟨o, e1, fun e => by rw [e] at hx; simp at hx⟩
    exact ⟨b, o, e1, Nat.lt_of_lt_of_le hb hO.size, fun j u hj => (World.cell?_of_block (a := ⟨b, o + i * 2 + j, none⟩) (hO.blk _ hb hne)).trans (h5 j u hj)⟩
set_option maxHeartbeats 32000000 in
theorem simpl10 (w : World) (vF vE vX : Value) (lo hi n : Int) (l : List Nd) (X : List (Int × Int)) (hE : NxC w vE l ∧ ∀ x ∈ l, NW x) (hX : Vx w vX X ∧ ∀ q ∈ X, W64 q.1 ∧ W64 q.2) (ht : W64 lo ∧ W64 hi) (h0 : 0 ≤ n) (h1 : n ≤ 255) :
    Calls Tryz.prog 4 #[.agg #[vF, vE, vX, .int .i64 lo, .int .i64 hi, .int .u8 n]] w fun e w' => e = .returned (.bool true) ∧ Below w.heap.size w w' := by
  obtain ⟨pE, cE, hvE⟩ : ∃ q cq, vE = .slice q l.length cq := by obtain ⟨⟨_, p, c, e1, _⟩, _⟩ := hE; exact ⟨p, c, e1⟩
  subst hvE
  obtain ⟨hX, hXb⟩ := hX
  obtain ⟨pX, cX, rfl⟩ := hX.cut
  obtain ⟨N, hN, hN1, hN3⟩ : ∃ N : Nat, 1 + n % 3 = (N : Int) ∧ 1 ≤ N ∧ N ≤ 3 := ⟨(1 + n % 3).toNat, by omega, by omega, by omega⟩
  have hA : Below w.heap.size w (w.alloc (.cells #[vF, .slice pE l.length cE, .slice pX X.length cX, .int .i64 lo, .int .i64 hi, .int .u8 n] 28)) := (Below.refl _ _).alloc (Nat.le_refl _) _
  have hbx : Blk (w.alloc (.cells #[vF, .slice pE l.length cE, .slice pX X.length cX, .int .i64 lo, .int .i64 hi, .int .u8 n] 28)) w.heap.size (.cells #[vF, .slice pE l.length cE, .slice pX X.length cX, .int .i64 lo, .int .i64 hi, .int .u8 n] 28) := World.alloc_heap_new w _
  have HE := Lib.hid (grows_nxc _ _ _ _ hE.1 hA)
  have HX := Lib.hid (hX.grow hA)
  have HXB := Lib.hid hXb
  have HBX := Lib.hid hbx
  have HA := Lib.hid hA
  have KD := Lib.hid (fun w => dim_ok vF (.slice pE l.length cE) (.slice pX X.length cX) lo hi n w h0 h1)
  rw [hN] at KD
  obtain ⟨t1, t2, hvt, km⟩ := r2made lo hi (by have := ht.1; unfold W64 at this; omega) (by have := ht.1; unfold W64 at this; omega) (by have := ht.2; unfold W64 at this; omega) (by have := ht.2; unfold W64 at this; omega)
  have KM := Lib.hid km
  have HVT := Lib.hid hvt
  clear hE hX hXb ht hA hbx hN h0 h1 km hvt
  go_enter Tryz.func4, Tryz.ntmps4
  go_wp2_with (fail)
  refine (sanity10 _).mono ?_
  rintro e w1 ⟨rfl, hB1⟩
  have hbx := HBX.out.grow hB1
  have i0 := heapN_cellj hbx (k := 0) (u := vF) rfl
  have i1 := heapN_cellj hbx (k := 1) (u := .slice pE l.length cE) rfl
  have i2 := heapN_cellj hbx (k := 2) (u := .slice pX X.length cX) rfl
  have i3 := heapN_cellj hbx (k := 3) (u := .int .i64 lo) rfl
  have i4 := heapN_cellj hbx (k := 4) (u := .int .i64 hi) rfl
  have i5 := heapN_cellj hbx (k := 5) (u := .int .u8 n) rfl
  have HE1 := Lib.hid (grows_nxc _ _ _ _ HE.out hB1)
  have HX1 := Lib.hid (HX.out.grow hB1)
  have HB1 := Lib.hid (below_then HA.out hB1)
  have HBX1 := Lib.hid hbx
  clear hbx hB1 HE HA HBX HX
  go_wp2_with (fail)
  refine (KD.out _).mono ?_
  rintro e w2 ⟨rfl, hB2⟩
  have hbx := HBX1.out.grow hB2
  have j1 := fun g : Grown w2 => heapN_cellj (hbx.grow g.h) (k := 1) (u := .slice pE l.length cE) rfl
  have j2 := fun g : Grown w2 => heapN_cellj (hbx.grow g.h) (k := 2) (u := .slice pX X.length cX) rfl
  have j3 := fun g : Grown w2 => heapN_cellj (hbx.grow g.h) (k := 3) (u := .int .i64 lo) rfl
  have j4 := fun g : Grown w2 => heapN_cellj (hbx.grow g.h) (k := 4) (u := .int .i64 hi) rfl
  have HB2 := Lib.hid (below_then HB1.out hB2)
  have K7 := Lib.hid (fun g : Grown w2 => made7_q (N : Int) ⟨by omega, by omega⟩ (.slice pE l.length cE) l g.w (grows_nxc _ _ _ _ HE1.out (below_then hB2 g.h)))
  have K3 := Lib.hid (fun g : Grown w2 => made3_q N (by omega) (.slice pX X.length cX) X g.w (HX1.out.grow (below_then hB2 g.h)) HXB.out)
  have hs2 := hB2.size
  have hs1 := HB1.out.size
  clear hbx HE1 HX1 HB1 HBX1 i0 i1 i2 i3 i4 i5 KD hB2
  go_wp2_with (fail)
  refine region_pred_n 14 (lk [(12, fun z_ _ => z_ = .pointer (some ⟨w.heap.size, 1, none⟩)), (13, fun z_ _ => z_ = .slice pE l.length cE), (14, fun z_ _ => z_ = .int .i64 (N : Int)), (15, fun z_ w_ => MdQ (N : Int) w_ z_), (16, fun z_ _ => z_ = .pointer (some ⟨w.heap.size, 2, none⟩)), (17, fun z_ _ => z_ = .slice pX X.length cX), (18, fun z_ _ => z_ = .int .i64 (N : Int)), (19, fun z_ w_ => BmQ N w_ z_), (20, fun z_ _ => z_ = .pointer (some ⟨w.heap.size, 3, none⟩)), (21, fun z_ _ => z_ = .agg #[.int .i64 lo, .int .i64 hi]), (22, fun z_ _ => z_ = .agg #[.int .i64 t1, .int .i64 t2]), (7, fun z_ w' => ∃ X_, z_ = .pointer (some ⟨X_, 0, none⟩) ∧ w2.heap.size ≤ X_ ∧ w'.heap[X_]? = some (.cells #[.int .i64 0, .int .i64 0] 26 (0, 0))), (5, fun z_ w_ => MdQ (N : Int) w_ z_), (6, fun z_ w_ => BmQ N w_ z_)]) (by kernel_rfl) (by kernel_rfl) (lk_steady _ ⟨steady_eq _, steady_eq _, steady_eq _, steady_md _, steady_eq _, steady_eq _, steady_eq _, steady_bm _, steady_eq _, steady_eq _, steady_eq _, fun u w1 w2 hb ⟨X, e, h1, h2⟩ => ⟨X, e, h1, (hb.block X (Array.getElem?_eq_some_iff.1 h2).1).trans h2⟩, steady_md _, steady_bm _, trivial⟩) ?_ ?_
  · refine ⟨?_, ?_, ?_, ?_, ?_, ?_, ?_, ?_, ?_, ?_, ?_, ?_, ?_, ?_, trivial⟩
    · refine ob_plain [1] rfl rfl fun aa g h => ?_
      have yy0 := seen_out (v := .pointer (some ⟨w.heap.size, 0, none⟩)) rfl rfl h.1
      have ee0 := getD_of yy0
      exact tupon_value (v := .pointer (some ⟨w.heap.size, 1, none⟩)) (by simp [go_sem, ee0, yy0]) (Below.refl _ _) rfl
    · refine ob_plain [12] rfl rfl fun aa g h => ?_
      obtain ⟨_, yy0, rfl⟩ := seen_in rfl h.1
      have ee0 := getD_of yy0
      exact tupon_value (v := .slice pE l.length cE) (by simp [go_sem, ee0, yy0, j1 g]) (Below.refl _ _) rfl
    · refine ob_plain [4] rfl rfl fun aa g h => ?_
      have yy0 := seen_out (v := .int .i64 (N : Int)) rfl rfl h.1
      have ee0 := getD_of yy0
      exact tupon_value (v := .int .i64 (N : Int)) (by simp [go_sem, ee0, yy0]) (Below.refl _ _) rfl
    · refine ob_plain [13, 14] rfl rfl fun aa g h => ?_
      obtain ⟨_, yy0, rfl⟩ := seen_in rfl h.1
      have ee0 := getD_of yy0
      obtain ⟨_, yy1, rfl⟩ := seen_in rfl h.2.1
      have ee1 := getD_of yy1
      refine tupon_enter (f := 11) (args := #[.slice pE l.length cE, .int .i64 30, .int .i64 (N : Int)]) (by simp [go_sem, ee0, yy0, ee1, yy1]) rfl ?_
      exact (K7.out g).mono fun e w' ⟨v_, he, hr, hB⟩ => ⟨_, he, hB, hr⟩
    · refine ob_plain [1] rfl rfl fun aa g h => ?_
      have yy0 := seen_out (v := .pointer (some ⟨w.heap.size, 0, none⟩)) rfl rfl h.1
      have ee0 := getD_of yy0
      exact tupon_value (v := .pointer (some ⟨w.heap.size, 2, none⟩)) (by simp [go_sem, ee0, yy0]) (Below.refl _ _) rfl
    · refine ob_plain [16] rfl rfl fun aa g h => ?_
      obtain ⟨_, yy0, rfl⟩ := seen_in rfl h.1
      have ee0 := getD_of yy0
      exact tupon_value (v := .slice pX X.length cX) (by simp [go_sem, ee0, yy0, j2 g]) (Below.refl _ _) rfl
    · refine ob_plain [4] rfl rfl fun aa g h => ?_
      have yy0 := seen_out (v := .int .i64 (N : Int)) rfl rfl h.1
      have ee0 := getD_of yy0
      exact tupon_value (v := .int .i64 (N : Int)) (by simp [go_sem, ee0, yy0]) (Below.refl _ _) rfl
    · refine ob_plain [17, 18] rfl rfl fun aa g h => ?_
      obtain ⟨_, yy0, rfl⟩ := seen_in rfl h.1
      have ee0 := getD_of yy0
      obtain ⟨_, yy1, rfl⟩ := seen_in rfl h.2.1
      have ee1 := getD_of yy1
      refine tupon_enter (f := 12) (args := #[.slice pX X.length cX, .int .i64 (N : Int)]) (by simp [go_sem, ee0, yy0, ee1, yy1]) rfl ?_
      exact (K3.out g).mono fun e w' ⟨v_, he, hr, hB⟩ => ⟨_, he, hB, hr⟩
    · refine ob_plain [1] rfl rfl fun aa g h => ?_
      have yy0 := seen_out (v := .pointer (some ⟨w.heap.size, 0, none⟩)) rfl rfl h.1
      have ee0 := getD_of yy0
      exact tupon_value (v := .pointer (some ⟨w.heap.size, 3, none⟩)) (by simp [go_sem, ee0, yy0]) (Below.refl _ _) rfl
    · refine ob_plain [20] rfl rfl fun aa g h => ?_
      obtain ⟨_, yy0, rfl⟩ := seen_in rfl h.1
      have ee0 := getD_of yy0
      exact tupon_value (v := .agg #[.int .i64 lo, .int .i64 hi]) (by simp [go_sem, ee0, yy0, j3 g, j4 g]) (Below.refl _ _) rfl
    · refine ob_plain [21] rfl rfl fun aa g h => ?_
      obtain ⟨_, yy0, rfl⟩ := seen_in rfl h.1
      have ee0 := getD_of yy0
      refine tupon_enter (f := 13) (args := #[.agg #[.int .i64 lo, .int .i64 hi]]) (by simp [go_sem, ee0, yy0]) rfl ?_
      exact (KM.out g.w).mono fun e w' ⟨he, hB⟩ => ⟨_, he, hB, rfl⟩
    · refine ob_plain [] rfl rfl fun aa g h => ?_
      exact tupon_value (v := .pointer (some ⟨g.w.heap.size, 0, none⟩)) (w1 := g.w.alloc (.cells #[.int .i64 0, .int .i64 0] 26)) (by simp [go_sem]) ((Below.refl _ _).alloc (Nat.le_refl _) _) ⟨_, rfl, g.h.size, World.alloc_heap_new _ _⟩
    · refine ob_plain [15] rfl rfl fun aa g h => ?_
      obtain ⟨z15, yy0, hz15⟩ := seen_in rfl h.1
      have ee0 := getD_of yy0
      exact tupon_value (v := z15) (by simp [go_sem, ee0, yy0]) (Below.refl _ _) hz15
    · refine ob_plain [19] rfl rfl fun aa g h => ?_
      obtain ⟨z19, yy0, hz19⟩ := seen_in rfl h.1
      have ee0 := getD_of yy0
      exact tupon_value (v := z19) (by simp [go_sem, ee0, yy0]) (Below.refl _ _) hz19
  rintro w3 hB3 _ rfl _ rfl _ rfl z15 hz15 _ rfl _ rfl _ rfl z19 hz19 _ rfl _ rfl _ rfl _ ⟨X7, rfl, hX7, hI7⟩ z5 hz5 z6 hz6
  simp only [Act.put, List.setIfInBounds_toArray, List.set_cons_succ, List.set_cons_zero, finP, List.drop_succ_cons, List.drop_zero, List.take_zero, List.filterMap_nil]
  obtain ⟨T, pv, cv, rfl, hnT, hET, hlT⟩ := hz5
  obtain ⟨m, pm, cm, rfl, hvm, hlm, hbm⟩ := hz6
  have hs3 := hB3.size
  have q0 := heapN_cellj hI7 (k := 0) rfl
  have q1 := heapN_cellj hI7 (k := 1) rfl
  have y0 : w3.frozen? ⟨X7, 0, none⟩ = false := by simp [World.frozen?, show w3.heap[X7]? = _ from hI7]
  have y1 : w3.frozen? ⟨X7, 1, none⟩ = false := by simp [World.frozen?, show w3.heap[X7]? = _ from hI7]
  obtain ⟨w4, e4, hI4, hO4⟩ := set2 hI7 (.int .i64 t1) (.int .i64 t2)
  have hb4 : Below w.heap.size w w4 := hO4.bel (below_then HB2.out hB3) (by omega) (by omega)
  have HT := Lib.hid (nxc_set hI7 hO4 hnT)
  obtain ⟨m', hm', hv', hbm'⟩ := vx_set hI7 hI4 hO4 HVT.out hvm hbm
  rw [hlm] at hm' hv' ⊢
  have HM := Lib.hid hv'
  have HMB := Lib.hid hbm'
  have HM4 := Lib.hid hm'
  have HB4 := Lib.hid hb4
  have HEV := Lib.hid hET
  have HLN := Lib.hid hlT
  have HI4 := Lib.hid (show Blk w4 X7 (.cells #[.int .i64 t1, .int .i64 t2] 26) from hI4)
  have HE4 := Lib.hid e4
  have KS := Lib.hid (simplify_ok (N : Int) (.slice pv (pre T).length cv) T w4 HT.out hET (by omega))
  clear hnT hvm hbm hI7 hI4 hO4 hb4 hv' hbm' hET e4 K7 K3 KM j1 j2 j3 j4 HB2 hB3 hz15 hz19 hlm
  go_wp2_with (fail)
  rw [HE4.out]
  refine KS.out.mono ?_
  rintro e w5 ⟨v5, rfl, hr5, hB5⟩
  have hsl := sT_len T
  have hns := nxc_own hr5 (by have := HLN.out; unfold maxLen; omega)
  obtain ⟨ps, cs, rfl⟩ := own_slice hr5
  have HS := Lib.hid hns
  have HT := Lib.hid (grows_nxc _ _ _ _ HT.out hB5)
  have HM := Lib.hid (HM.out.grow hB5)
  have HB5 := Lib.hid (below_then HB4.out hB5)
  have HI5 := Lib.hid (HI4.out.grow hB5)
  have KV := Lib.hid (vexprR_ok (N : Int) (sT T) (sT_ev HEV.out) (.slice ps (pre (sT T)).length cs) w5 hns (by have := HLN.out; omega))
  have hgt : decide (((pre T).length : Int) < ((pre (sT T)).length : Int)) = false := decide_eq_false (by omega)
  clear hr5 hB5 hns KS HB4 HI4 q0 q1 y0 y1 HE4
  go_wp2_with (fail)
  refine KV.out.mono ?_
  rintro e w6 ⟨rfl, hB6⟩
  have HS := Lib.hid (grows_nxc _ _ _ _ HS.out hB6)
  have HT := Lib.hid (grows_nxc _ _ _ _ HT.out hB6)
  have HM := Lib.hid (HM.out.grow hB6)
  have HB6 := Lib.hid (below_then HB5.out hB6)
  have HI6 := Lib.hid (HI5.out.grow hB6)
  obtain ⟨⟨a1, a2⟩, ha⟩ : ∃ r, evT m' (t1, t2) (sT T) = r := ⟨_, rfl⟩
  obtain ⟨⟨b1, b2⟩, hb⟩ : ∃ r, evT m' (t1, t2) T = r := ⟨_, rfl⟩
  have hsub := ev_sT (X := m') (t := (t1, t2)) HMB.out HVT.out HEV.out
  rw [ha, hb] at hsub
  have K37 := Lib.hid (fun g : Grown w6 => (by have h := simp_q (N : Int) (.slice ps (pre (sT T)).length cs) (sT T) g.w (grows_nxc _ _ _ _ HS.out g.h) (sT_ev HEV.out) (by have := HLN.out; omega); rw [sT_sT] at h; exact h : Calls Tryz.prog 15 #[.slice ps (pre (sT T)).length cs] g.w fun e w' => ∃ z, e = .returned z ∧ NsQ w' z (pre (sT T)) ∧ Below g.w.heap.size g.w w'))
  have K44 := Lib.hid (fun g : Grown w6 => reval_ok (N : Int) m' (.slice pm N cm) t1 t2 (by rw [HM4.out]) HMB.out HVT.out (sT T) (sT_ev HEV.out) (.slice ps (pre (sT T)).length cs) g.w (grows_nxc _ _ _ _ HS.out g.h) (HM.out.grow g.h) a1 a2 ha)
  have K48 := Lib.hid (fun g : Grown w6 => reval_ok (N : Int) m' (.slice pm N cm) t1 t2 (by rw [HM4.out]) HMB.out HVT.out T HEV.out (.slice pv (pre T).length cv) g.w (grows_nxc _ _ _ _ HT.out g.h) (HM.out.grow g.h) b1 b2 hb)
  have K49 := Lib.hid (fun g : Grown w6 => r2subset_0 a1 a2 b1 b2 g.w hsub.1 (decide_eq_true hsub.2))
  have x0 := fun g : Grown w6 => heapN_cellj (HI6.out.grow g.h) (k := 0) (u := .int .i64 t1) rfl
  have x1 := fun g : Grown w6 => heapN_cellj (HI6.out.grow g.h) (k := 1) (u := .int .i64 t2) rfl
  clear hB6 HB5 HI5 KV hsub ha hb
  go_wp2_with (fail)
  refine region_pred (lk [(36, fun z_ _ => z_ = .slice ps (pre (sT T)).length cs), (37, fun z_ w_ => NsQ w_ z_ (pre (sT T))), (38, fun z_ _ => z_ = .slice ps (pre (sT T)).length cs), (39, fun z_ _ => z_ = .bool true), (40, fun z_ _ => z_ = .bool true), (41, fun z_ _ => z_ = .slice ps (pre (sT T)).length cs), (42, fun z_ _ => z_ = .slice pm N cm), (43, fun z_ _ => z_ = .agg #[.int .i64 t1, .int .i64 t2]), (44, fun z_ _ => z_ = .agg #[.int .i64 a1, .int .i64 a2]), (45, fun z_ _ => z_ = .slice pv (pre T).length cv), (46, fun z_ _ => z_ = .slice pm N cm), (47, fun z_ _ => z_ = .agg #[.int .i64 t1, .int .i64 t2]), (48, fun z_ _ => z_ = .agg #[.int .i64 b1, .int .i64 b2]), (49, fun z_ _ => z_ = .bool true), (50, fun z_ _ => z_ = .bool true), (51, fun z_ _ => z_ = .bool true), (52, fun z_ _ => z_ = .bool true), (53, fun z_ _ => z_ = .bool true), (2, fun z_ _ => z_ = .bool true)]) (by kernel_rfl) (by kernel_rfl) (lk_steady _ ⟨steady_eq _, steady_nsq _, steady_eq _, steady_eq _, steady_eq _, steady_eq _, steady_eq _, steady_eq _, steady_eq _, steady_eq _, steady_eq _, steady_eq _, steady_eq _, steady_eq _, steady_eq _, steady_eq _, steady_eq _, steady_eq _, steady_eq _, trivial⟩) ?_ ?_
  · refine ⟨?_, ?_, ?_, ?_, ?_, ?_, ?_, ?_, ?_, ?_, ?_, ?_, ?_, ?_, ?_, ?_, ?_, ?_, ?_, trivial⟩
    · refine ob_plain [8] rfl rfl fun aa g h => ?_
      have yy0 := seen_out (v := .slice ps (pre (sT T)).length cs) rfl rfl h.1
      have ee0 := getD_of yy0
      exact tupon_value (v := .slice ps (pre (sT T)).length cs) (by simp [go_sem, ee0, yy0]) (Below.refl _ _) rfl
    · refine ob_plain [36] rfl rfl fun aa g h => ?_
      obtain ⟨_, yy0, rfl⟩ := seen_in rfl h.1
      have ee0 := getD_of yy0
      refine tupon_enter (f := 15) (args := #[.slice ps (pre (sT T)).length cs]) (by simp [go_sem, ee0, yy0]) rfl ?_
      exact (K37.out g).mono fun e w' ⟨v_, he, hr, hB⟩ => ⟨_, he, hB, hr⟩
    · refine ob_plain [8] rfl rfl fun aa g h => ?_
      have yy0 := seen_out (v := .slice ps (pre (sT T)).length cs) rfl rfl h.1
      have ee0 := getD_of yy0
      exact tupon_value (v := .slice ps (pre (sT T)).length cs) (by simp [go_sem, ee0, yy0]) (Below.refl _ _) rfl
    · refine ob_plain [37, 38] rfl rfl fun aa g h => ?_
      obtain ⟨_, yy0, ⟨q37, c37, rfl, hn37⟩⟩ := seen_in rfl h.1
      have ee0 := getD_of yy0
      obtain ⟨_, yy1, rfl⟩ := seen_in rfl h.2.1
      have ee1 := getD_of yy1
      refine tupon_enter (f := 14) (args := #[.slice q37 (pre (sT T)).length c37, .slice ps (pre (sT T)).length cs]) (by simp [go_sem, ee0, yy0, ee1, yy1]) rfl ?_
      exact (same_q _ _ (pre (sT T)) (pre (sT T)) g.w hn37 (grows_nxc _ _ _ _ HS.out g.h) rfl).mono fun e w' ⟨he, hB⟩ => ⟨_, he, hB, rfl⟩
    · refine ob_plain [39] rfl rfl fun aa g h => ?_
      obtain ⟨_, yy0, rfl⟩ := seen_in rfl h.1
      have ee0 := getD_of yy0
      exact tupon_value (v := .bool true) (by simp [go_sem, ee0, yy0]) (Below.refl _ _) rfl
    · refine ob_gtrue [8] _ true 40 rfl rfl rfl rfl (fun v w h => h) fun aa g h => ?_
      have yy0 := seen_out (v := .slice ps (pre (sT T)).length cs) rfl rfl h.1
      have ee0 := getD_of yy0
      exact tupon_value (v := .slice ps (pre (sT T)).length cs) (by simp [go_sem, ee0, yy0]) (Below.refl _ _) rfl
    · refine ob_gtrue [6] _ true 40 rfl rfl rfl rfl (fun v w h => h) fun aa g h => ?_
      have yy0 := seen_out (v := .slice pm N cm) rfl rfl h.1
      have ee0 := getD_of yy0
      exact tupon_value (v := .slice pm N cm) (by simp [go_sem, ee0, yy0]) (Below.refl _ _) rfl
    · refine ob_gtrue [7] _ true 40 rfl rfl rfl rfl (fun v w h => h) fun aa g h => ?_
      have yy0 := seen_out (v := .pointer (some ⟨X7, 0, none⟩)) rfl rfl h.1
      have ee0 := getD_of yy0
      exact tupon_value (v := .agg #[.int .i64 t1, .int .i64 t2]) (by simp [go_sem, ee0, yy0, x0 g, x1 g]) (Below.refl _ _) rfl
    · refine ob_gtrue [41, 42, 43] _ true 40 rfl rfl rfl rfl (fun v w h => h) fun aa g h => ?_
      obtain ⟨_, yy0, rfl⟩ := seen_in rfl h.1
      have ee0 := getD_of yy0
      obtain ⟨_, yy1, rfl⟩ := seen_in rfl h.2.1
      have ee1 := getD_of yy1
      obtain ⟨_, yy2, rfl⟩ := seen_in rfl h.2.2.1
      have ee2 := getD_of yy2
      refine tupon_enter (f := 28) (args := #[.slice ps (pre (sT T)).length cs, .slice pm N cm, .agg #[.int .i64 t1, .int .i64 t2]]) (by simp [go_sem, ee0, yy0, ee1, yy1, ee2, yy2]) rfl ?_
      exact (K44.out g).mono fun e w' ⟨he, hB⟩ => ⟨_, he, hB, rfl⟩
    · refine ob_gtrue [5] _ true 40 rfl rfl rfl rfl (fun v w h => h) fun aa g h => ?_
      have yy0 := seen_out (v := .slice pv (pre T).length cv) rfl rfl h.1
      have ee0 := getD_of yy0
      exact tupon_value (v := .slice pv (pre T).length cv) (by simp [go_sem, ee0, yy0]) (Below.refl _ _) rfl
    · refine ob_gtrue [6] _ true 40 rfl rfl rfl rfl (fun v w h => h) fun aa g h => ?_
      have yy0 := seen_out (v := .slice pm N cm) rfl rfl h.1
      have ee0 := getD_of yy0
      exact tupon_value (v := .slice pm N cm) (by simp [go_sem, ee0, yy0]) (Below.refl _ _) rfl
    · refine ob_gtrue [7] _ true 40 rfl rfl rfl rfl (fun v w h => h) fun aa g h => ?_
      have yy0 := seen_out (v := .pointer (some ⟨X7, 0, none⟩)) rfl rfl h.1
      have ee0 := getD_of yy0
      exact tupon_value (v := .agg #[.int .i64 t1, .int .i64 t2]) (by simp [go_sem, ee0, yy0, x0 g, x1 g]) (Below.refl _ _) rfl
    · refine ob_gtrue [45, 46, 47] _ true 40 rfl rfl rfl rfl (fun v w h => h) fun aa g h => ?_
      obtain ⟨_, yy0, rfl⟩ := seen_in rfl h.1
      have ee0 := getD_of yy0
      obtain ⟨_, yy1, rfl⟩ := seen_in rfl h.2.1
      have ee1 := getD_of yy1
      obtain ⟨_, yy2, rfl⟩ := seen_in rfl h.2.2.1
      have ee2 := getD_of yy2
      refine tupon_enter (f := 28) (args := #[.slice pv (pre T).length cv, .slice pm N cm, .agg #[.int .i64 t1, .int .i64 t2]]) (by simp [go_sem, ee0, yy0, ee1, yy1, ee2, yy2]) rfl ?_
      exact (K48.out g).mono fun e w' ⟨he, hB⟩ => ⟨_, he, hB, rfl⟩
    · refine ob_gtrue [44, 48] _ true 40 rfl rfl rfl rfl (fun v w h => h) fun aa g h => ?_
      obtain ⟨_, yy0, rfl⟩ := seen_in rfl h.1
      have ee0 := getD_of yy0
      obtain ⟨_, yy1, rfl⟩ := seen_in rfl h.2.1
      have ee1 := getD_of yy1
      refine tupon_enter (f := 27) (args := #[.agg #[.int .i64 a1, .int .i64 a2], .agg #[.int .i64 b1, .int .i64 b2]]) (by simp [go_sem, ee0, yy0, ee1, yy1]) rfl ?_
      exact (K49.out g).mono fun e w' ⟨he, hB⟩ => ⟨_, he, hB, rfl⟩
    · refine ob_plain [40, 49] rfl rfl fun aa g h => ?_
      obtain ⟨_, yy0, rfl⟩ := seen_in rfl h.1
      have ee0 := getD_of yy0
      obtain ⟨_, yy1, rfl⟩ := seen_in rfl h.2.1
      have ee1 := getD_of yy1
      exact tupon_value (v := .bool true) (by simp [go_sem, ee0, yy0, ee1, yy1]) (Below.refl _ _) rfl
    · refine ob_plain [50] rfl rfl fun aa g h => ?_
      obtain ⟨_, yy0, rfl⟩ := seen_in rfl h.1
      have ee0 := getD_of yy0
      exact tupon_value (v := .bool true) (by simp [go_sem, ee0, yy0]) (Below.refl _ _) rfl
    · refine ob_gtrue [3] _ true 51 rfl rfl rfl rfl (fun v w h => h) fun aa g h => ?_
      have yy0 := seen_out (v := .bool true) rfl rfl h.1
      have ee0 := getD_of yy0
      exact tupon_value (v := .bool true) (by simp [go_sem, ee0, yy0]) (Below.refl _ _) rfl
    · refine ob_plain [51, 52] rfl rfl fun aa g h => ?_
      obtain ⟨_, yy0, rfl⟩ := seen_in rfl h.1
      have ee0 := getD_of yy0
      obtain ⟨_, yy1, rfl⟩ := seen_in rfl h.2.1
      have ee1 := getD_of yy1
      exact tupon_value (v := .bool true) (by simp [go_sem, ee0, yy0, ee1, yy1]) (Below.refl _ _) rfl
    · refine ob_plain [53] rfl rfl fun aa g h => ?_
      obtain ⟨_, yy0, rfl⟩ := seen_in rfl h.1
      have ee0 := getD_of yy0
      exact tupon_value (v := .bool true) (by simp [go_sem, ee0, yy0]) (Below.refl _ _) rfl
  rintro w9 hB9 _ rfl _ ⟨q37, c37, rfl, hn37⟩ _ rfl _ rfl _ rfl _ rfl _ rfl _ rfl _ rfl _ rfl _ rfl _ rfl _ rfl _ rfl _ rfl _ rfl _ rfl _ rfl _ rfl
  simp only [Act.put, List.setIfInBounds_toArray, List.set_cons_succ, List.set_cons_zero, finP, List.drop_succ_cons, List.drop_zero, List.take_zero, List.filterMap_nil]
  have hb9 := below_then HB6.out hB9
  go_wp2_with (fail)
  go_ret
  exact ⟨rfl, hb9⟩
end Go.Proofs.YtbppfohcicepcaaGreat
