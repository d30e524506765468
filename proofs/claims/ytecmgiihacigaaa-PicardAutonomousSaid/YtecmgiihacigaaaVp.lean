/-
  The law PicardAutonomous.
-/
import Derived.Test.YtecmgiihacigaaaVu
import Derived.Test.YtecmgiihacigaaaVq
namespace Go.Proofs.Ytecmgiihacigaaa
open Go.ChangeShapes Go.WideShapes Go.ChangeAt Go.RowKit Go.Maps
set_option linter.unusedVariables false
set_option linter.unusedSimpArgs false
set_option maxRecDepth 100000
attribute [local irreducible] Calls
/-- A timeless instruction. -/
def tlI (x : Is) (i : Nat) : Is := if x.op = 3 then ⟨1, 0, 0, i, i⟩ else x
def tlT (T : List Is) (k : Nat) : List Is := T.mapIdx fun i x => if i < k then tlI x i else x
theorem tlT_at (T : List Is) (k i : Nat) : (tlT T k)[i]? = (T[i]?).map (fun x => if i < k then tlI x i else x) := by
  unfold tlT
  rw [List.getElem?_mapIdx]
theorem tlT_len (T : List Is) (k : Nat) : (tlT T k).length = T.length := by unfold tlT; rw [List.length_mapIdx]
theorem tlT_zero (T : List Is) : tlT T 0 = T := by
  apply List.ext_getElem?
  intro i
  rw [tlT_at]
  cases T[i]? <;> simp
theorem tlT_same {T : List Is} {k : Nat} {x : Is} (hx : T[k]? = some x) (h : x.op ≠ 3) : tlT T (k + 1) = tlT T k := by
  apply List.ext_getElem?
  intro i
  rw [tlT_at, tlT_at]
  by_cases e : i = k
  · subst e
    rw [hx]
    simp [tlI, h]
  · have : (i < k + 1) = (i < k) := by apply propext; omega
    simp only [this]
theorem tlT_set {T : List Is} {k : Nat} {x : Is} (hx : T[k]? = some x) (h : x.op = 3) : tlT T (k + 1) = (tlT T k).set k ⟨1, 0, 0, k, k⟩ := by
  have hk := (List.getElem?_eq_some_iff.1 hx).1
  apply List.ext_getElem?
  intro i
  by_cases e : i = k
  · subst e
    rw [List.getElem?_set_self (by rw [tlT_len]; exact hk), tlT_at, hx]
    simp [tlI, h]
  · rw [List.getElem?_set_ne (fun h => e h.symm), tlT_at, tlT_at]
    have : (i < k + 1) = (i < k) := by apply propext; omega
    simp only [this]
theorem tlT_cur {T : List Is} {k : Nat} {x : Is} (hx : T[k]? = some x) : (tlT T k)[k]? = some x := by
  rw [tlT_at, hx]
  simp
theorem tl_vin {i : Nat} {n : Int} {x : Is} (h : vinB i n x = true) (hi : i ≤ 1000) : vinB i n (tlI x i) = true ∧ (tlI x i).op ≠ 3 := by
  unfold tlI
  by_cases e : x.op = 3
  · rw [if_pos e]
    refine ⟨?_, show (1 : Int) ≠ 3 by decide⟩
    have hv : VI (i : Int) (i : Int) := .inr ⟨by unfold Num; omega, by unfold Num; omega, Int.le_refl _⟩
    simp [vinB, hv]
  · rw [if_neg e]
    exact ⟨h, e⟩
theorem tl_tv {T : List Is} {O : List Int} {N : Int} (h : tvB N T O = true) : tvB N (tlT T T.length) O = true ∧ ∀ x ∈ tlT T T.length, x.op ≠ 3 := by
  obtain ⟨h1, h2, h3, h4, h5, h6⟩ := tv_cases h
  have hat : ∀ (k : Nat) (y : Is), (tlT T T.length)[k]? = some y → vinB k N y = true ∧ y.op ≠ 3 := by
    intro k y hy
    rw [tlT_at] at hy
    cases e : T[k]? with
    | none => rw [e] at hy; cases hy
    | some x =>
      have hk := (List.getElem?_eq_some_iff.1 e).1
      rw [e] at hy
      simp only [Option.map_some, if_pos hk, Option.some.injEq] at hy
      subst hy
      exact tl_vin (h5 k x e) (by omega)
  refine ⟨tv_of h1 h2 (by rw [tlT_len]; exact h3) h4 rfl (fun k y hy => (hat k y hy).1) (fun y hy => ?_), fun x hx => ?_⟩
  · rw [tlT_len]
    unfold ixB
    have := h6 y hy
    simp [this]
  · obtain ⟨k, hk⟩ := List.getElem?_of_mem hx
    exact (hat k x hk).2
theorem evL_time (X : List (Int × Int)) (t t' : Int × Int) (L : List Is) (h : ∀ x ∈ L, x.op ≠ 3) : evL X t L = evL X t' L := by
  unfold evL
  suffices hs : ∀ (L : List Is) (acc : List (Int × Int)), (∀ x ∈ L, x.op ≠ 3) → L.foldl (fun vals x => vals ++ [evI X t vals x]) acc = L.foldl (fun vals x => vals ++ [evI X t' vals x]) acc from hs L [] h
  intro L
  induction L with
  | nil => intro acc _; rfl
  | cons x L ih =>
    intro acc hL
    have hx := hL x List.mem_cons_self
    have e : evI X t acc x = evI X t' acc x := by unfold evI; rw [if_neg hx, if_neg hx]
    simp only [List.foldl_cons, e]
    exact ih _ (fun y hy => hL y (List.mem_cons_of_mem _ hy))
theorem stpH_self {H : Int} (h1 : 1 ≤ H) (h2 : H ≤ 32768) : stpH (H - 1) = H := by
  have e1 : (H - 1).tmod 32768 = H - 1 := Int.tmod_eq_of_lt (by omega) (by omega)
  have e2 : (H - 1 + 32768).tmod 32768 = H - 1 := by
    rw [Int.tmod_eq_emod_of_nonneg (by omega)]
    omega
  unfold stpH
  rw [e1, e2]
  omega
theorem crI_set5 : ∀ (l : List Is) (k : Nat) (x : Is), cr encI (l.set k x) = (((((cr encI l).set (k * 5) (.int .i64 x.op)).set (k * 5 + 1) (.int .i64 x.a)).set (k * 5 + 2) (.int .i64 x.b)).set (k * 5 + 3) (.int .i64 x.lo)).set (k * 5 + 4) (.int .i64 x.hi)
  | [], k, x => by simp [cr]
  | p :: l, 0, x => by simp [cr, encI]
  | p :: l, k + 1, x => by
    have h := crI_set5 l k x
    rw [show (k + 1) * 5 = k * 5 + 1 + 1 + 1 + 1 + 1 by omega]
    show encI p ++ cr encI (l.set k x) = (((((encI p ++ cr encI l).set _ _).set _ _).set _ _).set _ _).set _ _
    rw [h]
    simp [encI]
theorem own_addr {W : World} {B n c sz : Nat} {p : Option Addr} {t : TypeId} {xs : List Value} (h : W.ownsRow B t sz (.slice p n c) n xs) (hn : 0 < n) : ∃ g, p = some ⟨g, 0, none⟩ := by
  obtain ⟨m, rfl⟩ : ∃ m, n = m + 1 := ⟨n - 1, by omega⟩
  obtain ⟨g, cap, e⟩ := ownsRow_succ h
  cases e
  exact ⟨g, rfl⟩
theorem own_ne_of {W : World} {B B' n m sz sz' c g : Nat} {t t' : TypeId} {v : Value} {xs ys : List Value} (h : W.ownsRow B t sz (.slice (some ⟨g, 0, none⟩) n c) n xs) (k : W.ownsRow B' t' sz' v m ys) (ht : t ≠ t') : v.ownBlock = none ∨ v.ownBlock ≠ some g := by
  cases e : v.ownBlock with
  | none => exact .inl rfl
  | some b =>
    refine .inr fun e2 => ?_
    obtain rfl : b = g := Option.some.inj e2
    rcases h.2 with ⟨e1, _⟩ | ⟨g1, c1, cur, e1, _, hh, _⟩
    · simp at e1
    · rcases k.2 with ⟨e3, _⟩ | ⟨g3, c3, cur3, e3, _, hh3, _⟩
      · rw [e3] at e; simp [Value.ownBlock] at e
      · rw [e3] at e
        simp only [Value.ownBlock, Option.some.injEq] at e
        simp only [Value.slice.injEq, Option.some.injEq, Addr.mk.injEq, and_true] at e1
        rw [e] at hh3
        rw [← e1.1, hh3] at hh
        simp only [Option.some.injEq, Obj.cells.injEq] at hh
        exact ht hh.2.1.symm
/-- An instruction, written. -/
def setI (W : World) (g k : Nat) (x : Is) : World := ((((W.setCell ⟨g, k * 5, none⟩ (.int .i64 x.op)).setCell ⟨g, k * 5 + 1, none⟩ (.int .i64 x.a)).setCell ⟨g, k * 5 + 2, none⟩ (.int .i64 x.b)).setCell ⟨g, k * 5 + 3, none⟩ (.int .i64 x.lo)).setCell ⟨g, k * 5 + 4, none⟩ (.int .i64 x.hi)
theorem setI_grown (W : World) (g k : Nat) (x : Is) : W.grownBy (setI W g k x) (some g) := by
  have s : ∀ (W : World) (o : Nat) (v : Value), W.grownBy (W.setCell ⟨g, o, none⟩ v) (some g) := fun W o v => grownBy_setN W ⟨g, o, none⟩ v
  exact gb_trans (gb_trans (gb_trans (gb_trans (s _ _ _) (s _ _ _)) (s _ _ _)) (s _ _ _)) (s _ _ _)
theorem setI_own {W : World} {B n c g : Nat} {l : List Is} {t : TypeId} (h : W.ownsRow B t 5 (.slice (some ⟨g, 0, none⟩) n c) n (cr encI l)) (k : Nat) (x : Is) : (setI W g k x).ownsRow B t 5 (.slice (some ⟨g, 0, none⟩) n c) n (cr encI (l.set k x)) := by
  rw [crI_set5]
  exact (((((h.stored (k * 5) (.int .i64 x.op)).1.stored (k * 5 + 1) (.int .i64 x.a)).1.stored (k * 5 + 2) (.int .i64 x.b)).1.stored (k * 5 + 3) (.int .i64 x.lo)).1.stored (k * 5 + 4) (.int .i64 x.hi)).1
set_option maxHeartbeats 64000000 in
theorem paut (w : World) (vL vO vX : Value) (n0 t ln : Int) (Lr : List Is) (outr : List Int) (Xr : List (Int × Int)) (hL : Ix w vL Lr ∧ ∀ x ∈ Lr, IW x) (hO : Px w vO outr ∧ ∀ x ∈ outr, W64 x) (hX : Vx w vX Xr ∧ ∀ q ∈ Xr, W64 q.1 ∧ W64 q.2) (hn : W64 n0) (ht : W64 t) (hln : W64 ln) (t2 : Int) (ht2 : (Lit.int .i64 t2).wf = true) :
    Calls Try.prog 10 #[.agg #[.int .i64 n0, vL, vO, vX, .int .i64 t, .int .i64 ln], .int .i64 t2] w fun e w' => e = .returned (.bool true) ∧ Below w.heap.size w w' := by
  obtain ⟨pl, cl, rfl⟩ := hL.1.cut
  obtain ⟨po, co, rfl⟩ := hO.1.cut
  obtain ⟨px, cx, rfl⟩ := hX.1.cut
  clear ht2
  have hE : Below w.heap.size w (w.alloc (.cells #[.int .i64 n0, .slice pl Lr.length cl, .slice po outr.length co, .slice px Xr.length cx, .int .i64 t, .int .i64 ln] 28)) := allocs_below [.cells #[.int .i64 n0, .slice pl Lr.length cl, .slice po outr.length co, .slice px Xr.length cx, .int .i64 t, .int .i64 ln] 28] w
  have HQ := Lib.hid (show Blk (w.alloc (.cells #[.int .i64 n0, .slice pl Lr.length cl, .slice po outr.length co, .slice px Xr.length cx, .int .i64 t, .int .i64 ln] 28)) (w.heap.size) (.cells #[.int .i64 n0, .slice pl Lr.length cl, .slice po outr.length co, .slice px Xr.length cx, .int .i64 t, .int .i64 ln] 28) from allocs_at [.cells #[.int .i64 n0, .slice pl Lr.length cl, .slice po outr.length co, .slice px Xr.length cx, .int .i64 t, .int .i64 ln] 28] w 0 _ rfl)
  have HL := Lib.hid (hL.1.grow hE)
  have HO := Lib.hid (hO.1.grow hE)
  have HXV := Lib.hid (hX.1.grow hE)
  have HW := Lib.hid hE
  clear hE hL hO hX hn ht hln
  go_enter Try.func10, Try.ntmps10
  go_wp2_with (fail)
  refine (sanity11 _).mono ?_
  rintro e w1 ⟨rfl, hB⟩
  have HQ := Lib.hid (HQ.out.grow hB)
  have HL := Lib.hid (HL.out.grow hB)
  have HO := Lib.hid (HO.out.grow hB)
  have HXV := Lib.hid (HXV.out.grow hB)
  have HW := Lib.hid (below_then HW.out hB)
  clear hB
  have q0 := heapN_cellj HQ.out (k := 0) rfl
  have q1 := heapN_cellj HQ.out (k := 1) rfl
  have q2 := heapN_cellj HQ.out (k := 2) rfl
  have q3 := heapN_cellj HQ.out (k := 3) rfl
  have q4 := heapN_cellj HQ.out (k := 4) rfl
  have q5 := heapN_cellj HQ.out (k := 5) rfl
  go_wp2_with (fail)
  refine (made_own n0 t ln _ _ _ Lr outr Xr _ HL.out HO.out HXV.out).mono ?_
  rintro e w2 ⟨N, T, O, pu, pr, pb, cu, cr', cb, rfl, hu, hr, hol, hx, htv, hN3, hT20, hB⟩
  clear q0 q1 q2 q3 q4 q5 HL HO HXV
  have htm := stpT_bd t
  have hhm := stpH_bd ln
  obtain ⟨tm, etm⟩ : ∃ m, stpT t = m := ⟨_, rfl⟩
  obtain ⟨hm, ehm⟩ : ∃ m, stpH ln = m := ⟨_, rfl⟩
  rw [etm] at htm
  rw [ehm] at hhm
  rw [etm, ehm]
  have HBD := Lib.hid (bx_bd Xr N)
  have hbl := boxI_len Xr N 65536
  obtain ⟨X, hX⟩ : ∃ X, boxI Xr N 65536 = X := ⟨_, rfl⟩
  rw [hX] at hx hbl HBD
  obtain ⟨hn1, hn6, h400, hon, hvl, hout⟩ := tv_cases htv
  have HXL := Lib.hid hbl
  have HVX := Lib.hid (bd_vi (by decide) (by decide) HBD.out)
  have HTV := Lib.hid htv
  have HUX := Lib.hid (Rx.own encI_len hu (by unfold maxLen; omega))
  have HXO := Lib.hid hx
  have HRO := Lib.hid hr
  have HOL := Lib.hid hol
  have HLT := Lib.hid (fun b (hb : (Value.slice pu T.length cu).ownBlock = some b) => (show b < w2.heap.size ∧ w.heap.size ≤ b from ⟨(hu.lt b hb).2, Nat.le_trans HW.out.size (hu.lt b hb).1⟩))
  have HOW := Lib.hid hu
  have hE : Below w2.heap.size w2 ((w2.alloc (.cells #[.int .i64 N, .slice pu T.length cu, .slice pr N cr'] 25)).alloc (.cells #[.int .i64 tm, .int .i64 hm] 33)) := allocs_below [.cells #[.int .i64 N, .slice pu T.length cu, .slice pr N cr'] 25, .cells #[.int .i64 tm, .int .i64 hm] 33] w2
  have hB2 := hB.trans (hE.mono hB.size)
  have HC := Lib.hid (show Blk ((w2.alloc (.cells #[.int .i64 N, .slice pu T.length cu, .slice pr N cr'] 25)).alloc (.cells #[.int .i64 tm, .int .i64 hm] 33)) w2.heap.size (.cells #[.int .i64 N, .slice pu T.length cu, .slice pr N cr'] 25) from allocs_at [.cells #[.int .i64 N, .slice pu T.length cu, .slice pr N cr'] 25, .cells #[.int .i64 tm, .int .i64 hm] 33] w2 0 _ rfl)
  have HS := Lib.hid (show Blk ((w2.alloc (.cells #[.int .i64 N, .slice pu T.length cu, .slice pr N cr'] 25)).alloc (.cells #[.int .i64 tm, .int .i64 hm] 33)) (w2.heap.size + 1) (.cells #[.int .i64 tm, .int .i64 hm] 33) from allocs_at [.cells #[.int .i64 N, .slice pu T.length cu, .slice pr N cr'] 25, .cells #[.int .i64 tm, .int .i64 hm] 33] w2 1 _ rfl)
  have HUX := Lib.hid (HUX.out.grow hE)
  have HXO := Lib.hid (own_base (own_keptN HXO.out hE) (show w.heap.size ≤ _ from HW.out.size))
  have HRO := Lib.hid (own_base (own_keptN HRO.out hE) (show w.heap.size ≤ _ from HW.out.size))
  have HOW := Lib.hid (own_keptN HOW.out hE)
  have HOW := Lib.hid (own_base HOW.out (show w.heap.size ≤ _ from HW.out.size))
  have HQ := Lib.hid (HQ.out.grow hB2)
  have HW := Lib.hid (below_then HW.out hB2)
  clear hB hB2 hE hu hr hx htv hX hbl etm ehm h400 hon hvl hout hn6
  go_wp2_with (fail)
  generalize hWc : World.alloc (World.alloc w2 _) _ = W5 at *
  clear hWc
  clear HQ
  have hlt2 : ∀ b, (Value.slice pu T.length cu).ownBlock = some b → b < w2.heap.size ∧ w.heap.size ≤ b := fun b hb => HLT.out b hb
  have HLT := Lib.hid hlt2
  have hTL : T.length ≤ 20 := hT20
  obtain ⟨htv2, hnt⟩ := tl_tv HTV.out
  have HT0 := Lib.hid (show W5.ownsRow w.heap.size 62 5 (.slice pu T.length cu) T.length (cr encI (tlT T 0)) from by rw [tlT_zero]; exact HOW.out)
  have hs5 : w2.heap.size + 2 ≤ W5.heap.size := by have := (Array.getElem?_eq_some_iff.1 HS.out).1; omega
  clear hlt2
  have c1 := heapN_cellj HC.out (k := 1) rfl
  go_wp2_with (fail)
  clear c1
  go_loopw [9] (fun i wr => ∃ k : Nat, i = .int .i64 k ∧ k ≤ T.length ∧ Hid (wr.ownsRow w.heap.size 62 5 (.slice pu T.length cu) T.length (cr encI (tlT T k))) ∧ Hid (wr.ownsRow w.heap.size 3 1 (.slice pr N cr') N (cr enc1 O)) ∧ Hid (wr.ownsRow w.heap.size 45 2 (.slice pb N cb) N (cr encB X)) ∧ Hid (Blk wr w2.heap.size (.cells #[.int .i64 N, .slice pu T.length cu, .slice pr N cr'] 25)) ∧ Hid (Blk wr (w2.heap.size + 1) (.cells #[.int .i64 tm, .int .i64 hm] 33)) ∧ Hid (Below w.heap.size w wr)) (fun i _ => T.length - (intOf i).toNat)
  case atStart => exact ⟨0, rfl, Nat.zero_le _, HT0, HRO, HXO, HC, HS, HW⟩
  case round =>
    clear HT0 HRO HXO HC HS HW HOW
    obtain ⟨k, rfl, hk, HT0, HRO, HXO, HC, HS, HW⟩ := hrel
    have c1 := heapN_cellj HC.out (k := 1) rfl
    by_cases hlt : k < T.length
    · have i2 : (k : Int) < T.length := by omega
      obtain ⟨g, hg⟩ := own_addr HT0.out (by omega)
      obtain ⟨hg1, hg2⟩ := HLT.out g (by rw [hg]; rfl)
      subst hg
      obtain ⟨⟨op, ia, ib, ilo, ihi⟩, hx⟩ : ∃ x, T[k]? = some x := ⟨_, List.getElem?_eq_getElem hlt⟩
      have hcur := tlT_cur hx
      have q0 := (HT0.out.cellAt (k * 5) (by omega)).trans (cr_get encI_len k _ hcur 0 _ rfl)
      simp only [Nat.add_zero] at q0
      by_cases h3 : op = 3
      · subst h3
        have hset := tlT_set hx rfl
        have HSET := Lib.hid hset
        have KP := Lib.hid (fun w => point_at k w (if_pos ⟨by unfold Num; omega, by unfold Num; omega⟩) (if_pos ⟨by unfold Num; omega, by unfold Num; omega⟩))
        have HCUR := Lib.hid hcur
        clear hx hset hcur
        go_wp2_with (fail)
        clear q0 c1
        have c1 := fun g : Grown wr => heapN_cellj (HC.out.grow g.h) (k := 1) rfl
        refine region_pred_l (lk [(36, fun z_ _ => z_ = .pointer (some ⟨w2.heap.size, 1, none⟩)), (37, fun z_ _ => z_ = .slice (some ⟨g, 0, none⟩) T.length cu), (38, fun z_ _ => z_ = .int .i64 (k : Int)), (39, fun z_ _ => z_ = .int .i64 (k : Int)), (40, fun z_ _ => z_ = .agg #[.int .i64 (k : Int), .int .i64 (k : Int)]), (41, fun z_ _ => z_ = .agg #[.int .i64 1, .int .i64 0, .int .i64 0, .int .i64 (k : Int), .int .i64 (k : Int)]), (42, fun z_ _ => z_ = .pointer (some ⟨g, k * 5, none⟩))]) 7 _ rfl (by kernel_rfl) (by kernel_rfl) (by kernel_rfl) (lk_steady _ ⟨steady_eq _, steady_eq _, steady_eq _, steady_eq _, steady_eq _, steady_eq _, steady_eq _, trivial⟩) ?_ ?_
        · refine ⟨?_, ?_, ?_, ?_, ?_, ?_, ?_, ?_, trivial⟩
          · intro _
            refine ob_plain [6] rfl rfl fun aa g_ h => ?_
            have yy0 := seen_out (v := .pointer (some ⟨w2.heap.size, 0, none⟩)) rfl rfl h.1
            have ee0 := getD_of yy0
            exact tupon_value (v := .pointer (some ⟨w2.heap.size, 1, none⟩)) (by simp [go_sem, ee0, yy0]) (Below.refl _ _) rfl
          · intro _
            refine ob_plain [36] rfl rfl fun aa g_ h => ?_
            obtain ⟨_, yy0, rfl⟩ := seen_in rfl h.1
            have ee0 := getD_of yy0
            exact tupon_value (v := .slice (some ⟨g, 0, none⟩) T.length cu) (by simp [go_sem, ee0, yy0, c1 g_]) (Below.refl _ _) rfl
          · intro _
            refine ob_plain [9] rfl rfl fun aa g_ h => ?_
            have yy0 := seen_out (v := .int .i64 (k : Int)) rfl rfl h.1
            have ee0 := getD_of yy0
            exact tupon_value (v := .int .i64 (k : Int)) (by simp [go_sem, ee0, yy0]) (Below.refl _ _) rfl
          · intro _
            refine ob_plain [9] rfl rfl fun aa g_ h => ?_
            have yy0 := seen_out (v := .int .i64 (k : Int)) rfl rfl h.1
            have ee0 := getD_of yy0
            exact tupon_value (v := .int .i64 (k : Int)) (by simp [go_sem, ee0, yy0]) (Below.refl _ _) rfl
          · intro _
            refine ob_plain [39] rfl rfl fun aa g_ h => ?_
            obtain ⟨_, yy0, rfl⟩ := seen_in rfl h.1
            have ee0 := getD_of yy0
            refine tupon_enter (f := 24) (args := #[.int .i64 (k : Int)]) (by simp [go_sem, ee0, yy0]) rfl ?_
            exact (KP.out g_.w).mono fun e w' ⟨he, hB⟩ => ⟨_, he, hB, rfl⟩
          · intro _
            refine ob_plain [40] rfl rfl fun aa g_ h => ?_
            obtain ⟨_, yy0, rfl⟩ := seen_in rfl h.1
            have ee0 := getD_of yy0
            exact tupon_value (v := .agg #[.int .i64 1, .int .i64 0, .int .i64 0, .int .i64 (k : Int), .int .i64 (k : Int)]) (by simp [go_sem, ee0, yy0]) (Below.refl _ _) rfl
          · intro _
            refine ob_plain [37, 38] rfl rfl fun aa g_ h => ?_
            obtain ⟨_, yy0, rfl⟩ := seen_in rfl h.1
            have ee0 := getD_of yy0
            obtain ⟨_, yy1, rfl⟩ := seen_in rfl h.2.1
            have ee1 := getD_of yy1
            exact tupon_value (v := .pointer (some ⟨g, k * 5, none⟩)) (by simp [go_sem, ee0, yy0, ee1, yy1, i2]) (Below.refl _ _) rfl
          · exact fun h => absurd rfl h
        rintro w5 hB5 _ rfl _ rfl _ rfl _ rfl _ rfl _ rfl _ rfl
        simp only [Act.put, List.setIfInBounds_toArray, List.set_cons_succ, List.set_cons_zero]
        have HT5 := Lib.hid (own_keptN HT0.out hB5)
        have HR5 := Lib.hid (own_keptN HRO.out hB5)
        have HX5 := Lib.hid (own_keptN HXO.out hB5)
        have HC5 := Lib.hid (HC.out.grow hB5)
        have HS5 := Lib.hid (HS.out.grow hB5)
        have HW5 := Lib.hid (below_then HW.out hB5)
        have q0 := (HT5.out.cellAt (k * 5) (by omega)).trans (cr_get encI_len k _ HCUR.out 0 _ rfl)
        have q1 := (HT5.out.cellAt (k * 5 + 1) (by omega)).trans (cr_get encI_len k _ HCUR.out 1 _ rfl)
        have q2 := (HT5.out.cellAt (k * 5 + 2) (by omega)).trans (cr_get encI_len k _ HCUR.out 2 _ rfl)
        have q3 := (HT5.out.cellAt (k * 5 + 3) (by omega)).trans (cr_get encI_len k _ HCUR.out 3 _ rfl)
        have q4 := (HT5.out.cellAt (k * 5 + 4) (by omega)).trans (cr_get encI_len k _ HCUR.out 4 _ rfl)
        simp only [Nat.add_zero] at q0
        have z0 := HT5.out.frozenAt (k * 5)
        have z1 := HT5.out.frozenAt (k * 5 + 1)
        have z2 := HT5.out.frozenAt (k * 5 + 2)
        have z3 := HT5.out.frozenAt (k * 5 + 3)
        have z4 := HT5.out.frozenAt (k * 5 + 4)
        refine ⟨setI w5 g k ⟨1, 0, 0, k, k⟩, by simp [go_sem, q0, q1, q2, q3, q4, z0, z1, z2, z3, z4]; rfl, ?_⟩
        have hgr := setI_grown w5 g k ⟨1, 0, 0, k, k⟩
        have HT6 := Lib.hid (show (setI w5 g k ⟨1, 0, 0, k, k⟩).ownsRow w.heap.size 62 5 (.slice (some ⟨g, 0, none⟩) T.length cu) T.length (cr encI (tlT T (k + 1))) from by rw [HSET.out]; exact setI_own HT5.out k _)
        have HR6 := Lib.hid (HR5.out.kept hgr (own_ne_of HT5.out HR5.out (by decide)))
        have HX6 := Lib.hid (HX5.out.kept hgr (own_ne_of HT5.out HX5.out (by decide)))
        have HC6 := Lib.hid (show Blk (setI w5 g k ⟨1, 0, 0, k, k⟩) w2.heap.size (.cells #[.int .i64 N, .slice (some ⟨g, 0, none⟩) T.length cu, .slice pr N cr'] 25) from (hgr.block _ (Array.getElem?_eq_some_iff.1 HC5.out).1 (fun e => by have := Option.some.inj e; omega)).trans HC5.out)
        have HS6 := Lib.hid (show Blk (setI w5 g k ⟨1, 0, 0, k, k⟩) (w2.heap.size + 1) (.cells #[.int .i64 tm, .int .i64 hm] 33) from (hgr.block _ (Array.getElem?_eq_some_iff.1 HS5.out).1 (fun e => by have := Option.some.inj e; omega)).trans HS5.out)
        have HW6 := Lib.hid (HW5.out.grown hgr HW5.out.size (fun j e => by cases e; exact hg2))
        generalize setI w5 g k ⟨1, 0, 0, k, k⟩ = W6 at *
        clear q0 q1 q2 q3 q4 z0 z1 z2 z3 z4 hgr HT5 HR5 HX5 HC5 HS5 HW5 hB5 c1 HT0 HRO HXO HC HS HW KP HCUR
        go_wp2_with (fail)
        go_roundw
        case rel => exact ⟨k + 1, by go_num, by omega, HT6, HR6, HX6, HC6, HS6, HW6⟩
        case measure => simp [intOf]; omega
      · have hset := tlT_same hx h3
        have HT1 := HT0
        rw [← hset] at HT1
        have h3b : (op == 3) = false := by simpa using h3
        clear hx hset hcur
        go_wp2_with (fail)
        go_roundw
        case rel => exact ⟨k + 1, by go_num, by omega, HT1, HRO, HXO, HC, HS, HW⟩
        case measure => simp [intOf]; omega
    · obtain rfl : k = T.length := by omega
      have i2 : ¬ (T.length : Int) < T.length := by omega
      obtain ⟨T', eT⟩ : ∃ T', tlT T T.length = T' := ⟨_, rfl⟩
      have hTl : T'.length = T.length := by rw [← eT, tlT_len]
      have HUX := Lib.hid (show Ix wr (.slice pu T.length cu) T' from by
        have h := HT0.out
        rw [eT, ← hTl] at h
        have h2 := Rx.own encI_len h (by unfold maxLen; omega)
        rwa [hTl] at h2)
      rw [eT] at htv2 hnt
      have HR := Lib.hid (show Px wr (.slice pr N cr') O from Rx.own (enc := enc1) (fun _ => rfl) (by rw [HOL.out]; exact HRO.out) (by rw [HOL.out]; unfold maxLen; omega))
      have HX := Lib.hid (show Vx wr (.slice pb N cb) X from by
        have h := HXO.out
        rw [← HXL.out] at h
        have h2 := Rx.own encB_len h (by rw [HXL.out]; unfold maxLen; omega)
        rwa [HXL.out] at h2)
      have hXN : (X.length : Int) = N := by rw [HXL.out]
      have ht2 := stpT_bd t2
      have hh2 := stpH_self hhm.1 hhm.2
      have KS := Lib.hid (fun w => step_ok t2 (hm - 1) w)
      rw [hh2] at KS
      obtain ⟨tm2, et2⟩ : ∃ m, stpT t2 = m := ⟨_, rfl⟩
      rw [et2] at ht2 KS
      have himg : ∀ B, imgT T' O tm2 hm X B = imgT T' O tm hm X B := fun B => by unfold imgT; rw [evL_time B (tm2, tm2 + hm) (tm, tm + hm) T' hnt]
      obtain ⟨r, er⟩ : ∃ r, encR (imgT T' O tm hm X) X = r := ⟨_, rfl⟩
      have er2 : encR (imgT T' O tm2 hm X) X = r := by rw [show imgT T' O tm2 hm X = imgT T' O tm hm X from funext himg]; exact er
      have K1 := Lib.hid (fun w a b c => encl_ok N tm hm (.slice pu T.length cu) (.slice pr N cr') (.slice pb N cb) T' O X w a b c htv2 hXN HVX.out htm.1 htm.2 (by omega) (by omega) r er)
      have K2 := Lib.hid (fun w a b c => encl_ok N tm2 hm (.slice pu T.length cu) (.slice pr N cr') (.slice pb N cb) T' O X w a b c htv2 hXN HVX.out ht2.1 ht2.2 (by omega) (by omega) r er2)
      have I1 := Lib.hid (fun w a b c d => image_vx N tm hm (.slice pu T.length cu) (.slice pr N cr') (.slice pb N cb) (.slice pb N cb) T' O X X w a b c d htv2 hXN hXN HVX.out HVX.out htm.1 htm.2 (by omega) (by omega))
      have I2 := Lib.hid (fun w a b c d => image_vx N tm2 hm (.slice pu T.length cu) (.slice pr N cr') (.slice pb N cb) (.slice pb N cb) T' O X X w a b c d htv2 hXN hXN HVX.out HVX.out ht2.1 ht2.2 (by omega) (by omega))
      have e2 := himg X
      have hPl : (imgT T' O tm hm X X).length = N := by rw [imgT_len htv2 hXN, HXL.out]
      rw [e2] at I2
      obtain ⟨P, eP⟩ : ∃ P, imgT T' O tm hm X X = P := ⟨_, rfl⟩
      rw [eP] at I1 I2 hPl
      have SP := Lib.hid (fun va vb w a b => sbox_self va vb P N w a b hPl)
      obtain ⟨D, eD⟩ : ∃ D, r.getD [] = D := ⟨_, rfl⟩
      obtain ⟨is, eis⟩ : ∃ b, r.isSome = b := ⟨_, rfl⟩
      rw [eD, eis] at K1 K2
      have SD := Lib.hid (fun va vb w a b => sbox_self va vb D D.length w a b rfl)
      have U1 : IntKind.i64.wrap (hm - 1) = hm - 1 := wrapI _ (by omega) (by omega)
      have s1 := heapN_cellj HS.out (k := 1) rfl
      clear eT hTl htv2 hnt HT0 HRO HXO hXN ht2 hh2 et2 himg er er2 e2 hPl eP eD eis htm hhm
      go_wp2_with (fail)
      refine (KS.out _).mono ?_
      rintro e w6 ⟨rfl, hB⟩
      have hB2 := hB.alloc hB.size (.cells #[.int .i64 tm2, .int .i64 hm] 33)
      have HQ2 := Lib.hid (show Blk (w6.alloc (.cells #[.int .i64 tm2, .int .i64 hm] 33)) w6.heap.size (.cells #[.int .i64 tm2, .int .i64 hm] 33) from World.alloc_heap_new w6 _)
      have HC := Lib.hid (HC.out.grow hB2)
      have HS := Lib.hid (HS.out.grow hB2)
      have HUX := Lib.hid (HUX.out.grow hB2)
      have HR := Lib.hid (HR.out.grow hB2)
      have HX := Lib.hid (HX.out.grow hB2)
      have HW := Lib.hid (below_then HW.out hB2)
      clear hB hB2 s1 c1 U1 KS
      have c0 := heapN_cellj HC.out (k := 0) rfl
      have c1 := heapN_cellj HC.out (k := 1) rfl
      have c2 := heapN_cellj HC.out (k := 2) rfl
      have s0 := heapN_cellj HS.out (k := 0) rfl
      have s1 := heapN_cellj HS.out (k := 1) rfl
      go_wp2_with (fail)
      refine (K1.out _ HUX.out HR.out HX.out).mono ?_
      rintro e w7 ⟨v1, rfl, hv, hB⟩
      obtain ⟨p1, d1, rfl⟩ := hv.cut
      have V1 := Lib.hid hv
      have HC := Lib.hid (HC.out.grow hB)
      have HS := Lib.hid (HS.out.grow hB)
      have HQ2 := Lib.hid (HQ2.out.grow hB)
      have HUX := Lib.hid (HUX.out.grow hB)
      have HR := Lib.hid (HR.out.grow hB)
      have HX := Lib.hid (HX.out.grow hB)
      have HW := Lib.hid (below_then HW.out hB)
      clear hB hv c0 c1 c2 s0 s1 K1
      have c0 := heapN_cellj HC.out (k := 0) rfl
      have c1 := heapN_cellj HC.out (k := 1) rfl
      have c2 := heapN_cellj HC.out (k := 2) rfl
      have s0 := heapN_cellj HQ2.out (k := 0) rfl
      have s1 := heapN_cellj HQ2.out (k := 1) rfl
      go_wp2_with (fail)
      refine (K2.out _ HUX.out HR.out HX.out).mono ?_
      rintro e w8 ⟨v2, rfl, hv, hB⟩
      obtain ⟨p2, d2, rfl⟩ := hv.cut
      have V2 := Lib.hid hv
      have HC := Lib.hid (HC.out.grow hB)
      have HS := Lib.hid (HS.out.grow hB)
      have HQ2 := Lib.hid (HQ2.out.grow hB)
      have HUX := Lib.hid (HUX.out.grow hB)
      have HR := Lib.hid (HR.out.grow hB)
      have HX := Lib.hid (HX.out.grow hB)
      have V1 := Lib.hid (V1.out.grow hB)
      have HW := Lib.hid (below_then HW.out hB)
      clear hB hv c0 c1 c2 s0 s1 K2
      have c0 := fun g : Grown w8 => heapN_cellj (HC.out.grow g.h) (k := 0) rfl
      have c1 := fun g : Grown w8 => heapN_cellj (HC.out.grow g.h) (k := 1) rfl
      have c2 := fun g : Grown w8 => heapN_cellj (HC.out.grow g.h) (k := 2) rfl
      have s0 := fun g : Grown w8 => heapN_cellj (HS.out.grow g.h) (k := 0) rfl
      have s1 := fun g : Grown w8 => heapN_cellj (HS.out.grow g.h) (k := 1) rfl
      have u0 := fun g : Grown w8 => heapN_cellj (HQ2.out.grow g.h) (k := 0) rfl
      have u1 := fun g : Grown w8 => heapN_cellj (HQ2.out.grow g.h) (k := 1) rfl
      go_wp2_with (fail)
      refine region_pred (lk [(62, fun z_ _ => z_ = .pointer (some ⟨w6.heap.size, 1, none⟩)), (63, fun z_ _ => z_ = .int .i64 hm), (64, fun z_ _ => z_ = .pointer (some ⟨w2.heap.size + 1, 1, none⟩)), (65, fun z_ _ => z_ = .int .i64 hm), (66, fun z_ _ => z_ = .bool true), (67, fun z_ _ => z_ = .bool true), (68, fun z_ _ => z_ = .slice p1 D.length d1), (69, fun z_ _ => z_ = .slice p2 D.length d2), (70, fun z_ _ => z_ = .bool true), (71, fun z_ _ => z_ = .bool true), (72, fun z_ _ => z_ = .bool true), (73, fun z_ _ => z_ = .bool is), (74, fun z_ _ => z_ = .bool is), (75, fun z_ _ => z_ = .bool true), (76, fun z_ _ => z_ = .bool true), (77, fun z_ _ => z_ = .bool true), (78, fun z_ _ => z_ = .agg #[.int .i64 N, .slice pu T.length cu, .slice pr N cr']), (79, fun z_ _ => z_ = .slice pb N cb), (80, fun z_ _ => z_ = .slice pb N cb), (81, fun z_ _ => z_ = .agg #[.int .i64 tm, .int .i64 hm]), (82, fun z_ w' => Vx w' z_ P), (83, fun z_ _ => z_ = .agg #[.int .i64 N, .slice pu T.length cu, .slice pr N cr']), (84, fun z_ _ => z_ = .slice pb N cb), (85, fun z_ _ => z_ = .slice pb N cb), (86, fun z_ _ => z_ = .agg #[.int .i64 tm2, .int .i64 hm]), (87, fun z_ w' => Vx w' z_ P), (88, fun z_ _ => z_ = .bool true), (89, fun z_ _ => z_ = .bool true), (90, fun z_ _ => z_ = .bool true), (91, fun z_ _ => z_ = .bool true), (92, fun z_ _ => z_ = .bool true), (4, fun z_ _ => z_ = .bool true)]) (by kernel_rfl) (by kernel_rfl) (lk_steady _ ⟨steady_eq _, steady_eq _, steady_eq _, steady_eq _, steady_eq _, steady_eq _, steady_eq _, steady_eq _, steady_eq _, steady_eq _, steady_eq _, steady_eq _, steady_eq _, steady_eq _, steady_eq _, steady_eq _, steady_eq _, steady_eq _, steady_eq _, steady_eq _, fun u w1 w2 hb h => h.grow hb, steady_eq _, steady_eq _, steady_eq _, steady_eq _, fun u w1 w2 hb h => h.grow hb, steady_eq _, steady_eq _, steady_eq _, steady_eq _, steady_eq _, steady_eq _, trivial⟩) ?_ ?_
      · refine ⟨?_, ?_, ?_, ?_, ?_, ?_, ?_, ?_, ?_, ?_, ?_, ?_, ?_, ?_, ?_, ?_, ?_, ?_, ?_, ?_, ?_, ?_, ?_, ?_, ?_, ?_, ?_, ?_, ?_, ?_, ?_, ?_, trivial⟩
        · refine ob_plain [10] rfl rfl fun aa g h => ?_
          have yy0 := seen_out (v := .pointer (some ⟨w6.heap.size, 0, none⟩)) rfl rfl h.1
          have ee0 := getD_of yy0
          exact tupon_value (v := .pointer (some ⟨w6.heap.size, 1, none⟩)) (by simp [go_sem, ee0, yy0]) (Below.refl _ _) rfl
        · refine ob_plain [62] rfl rfl fun aa g h => ?_
          obtain ⟨_, yy0, rfl⟩ := seen_in rfl h.1
          have ee0 := getD_of yy0
          exact tupon_value (v := .int .i64 hm) (by simp [go_sem, ee0, yy0, u1 g]) (Below.refl _ _) rfl
        · refine ob_plain [8] rfl rfl fun aa g h => ?_
          have yy0 := seen_out (v := .pointer (some ⟨w2.heap.size + 1, 0, none⟩)) rfl rfl h.1
          have ee0 := getD_of yy0
          exact tupon_value (v := .pointer (some ⟨w2.heap.size + 1, 1, none⟩)) (by simp [go_sem, ee0, yy0]) (Below.refl _ _) rfl
        · refine ob_plain [64] rfl rfl fun aa g h => ?_
          obtain ⟨_, yy0, rfl⟩ := seen_in rfl h.1
          have ee0 := getD_of yy0
          exact tupon_value (v := .int .i64 hm) (by simp [go_sem, ee0, yy0, s1 g]) (Below.refl _ _) rfl
        · refine ob_plain [63, 65] rfl rfl fun aa g h => ?_
          obtain ⟨_, yy0, rfl⟩ := seen_in rfl h.1
          have ee0 := getD_of yy0
          obtain ⟨_, yy1, rfl⟩ := seen_in rfl h.2.1
          have ee1 := getD_of yy1
          exact tupon_value (v := .bool true) (by simp [go_sem, ee0, yy0, ee1, yy1]) (Below.refl _ _) rfl
        · refine ob_plain [66] rfl rfl fun aa g h => ?_
          obtain ⟨_, yy0, rfl⟩ := seen_in rfl h.1
          have ee0 := getD_of yy0
          exact tupon_value (v := .bool true) (by simp [go_sem, ee0, yy0]) (Below.refl _ _) rfl
        · refine ob_gtrue [11] _ true 67 rfl rfl rfl rfl (fun v w h => h) fun aa g h => ?_
          have yy0 := seen_out (v := .slice p1 D.length d1) rfl rfl h.1
          have ee0 := getD_of yy0
          exact tupon_value (v := .slice p1 D.length d1) (by simp [go_sem, ee0, yy0]) (Below.refl _ _) rfl
        · refine ob_gtrue [13] _ true 67 rfl rfl rfl rfl (fun v w h => h) fun aa g h => ?_
          have yy0 := seen_out (v := .slice p2 D.length d2) rfl rfl h.1
          have ee0 := getD_of yy0
          exact tupon_value (v := .slice p2 D.length d2) (by simp [go_sem, ee0, yy0]) (Below.refl _ _) rfl
        · refine ob_gtrue [68, 69] _ true 67 rfl rfl rfl rfl (fun v w h => h) fun aa g h => ?_
          obtain ⟨_, yy0, rfl⟩ := seen_in rfl h.1
          have ee0 := getD_of yy0
          obtain ⟨_, yy1, rfl⟩ := seen_in rfl h.2.1
          have ee1 := getD_of yy1
          refine tupon_enter (f := 16) (args := #[.slice p1 D.length d1, .slice p2 D.length d2]) (by simp [go_sem, ee0, yy0, ee1, yy1]) rfl ?_
          exact (SD.out _ _ g.w (V1.out.grow g.h) (V2.out.grow g.h)).mono fun e w' ⟨he, hB⟩ => ⟨_, he, hB, rfl⟩
        · refine ob_plain [67, 70] rfl rfl fun aa g h => ?_
          obtain ⟨_, yy0, rfl⟩ := seen_in rfl h.1
          have ee0 := getD_of yy0
          obtain ⟨_, yy1, rfl⟩ := seen_in rfl h.2.1
          have ee1 := getD_of yy1
          exact tupon_value (v := .bool true) (by simp [go_sem, ee0, yy0, ee1, yy1]) (Below.refl _ _) rfl
        · refine ob_plain [71] rfl rfl fun aa g h => ?_
          obtain ⟨_, yy0, rfl⟩ := seen_in rfl h.1
          have ee0 := getD_of yy0
          exact tupon_value (v := .bool true) (by simp [go_sem, ee0, yy0]) (Below.refl _ _) rfl
        · refine ob_gtrue [12] _ true 72 rfl rfl rfl rfl (fun v w h => h) fun aa g h => ?_
          have yy0 := seen_out (v := .bool is) rfl rfl h.1
          have ee0 := getD_of yy0
          exact tupon_value (v := .bool is) (by simp [go_sem, ee0, yy0]) (Below.refl _ _) rfl
        · refine ob_gtrue [14] _ true 72 rfl rfl rfl rfl (fun v w h => h) fun aa g h => ?_
          have yy0 := seen_out (v := .bool is) rfl rfl h.1
          have ee0 := getD_of yy0
          exact tupon_value (v := .bool is) (by simp [go_sem, ee0, yy0]) (Below.refl _ _) rfl
        · refine ob_gtrue [73, 74] _ true 72 rfl rfl rfl rfl (fun v w h => h) fun aa g h => ?_
          obtain ⟨_, yy0, rfl⟩ := seen_in rfl h.1
          have ee0 := getD_of yy0
          obtain ⟨_, yy1, rfl⟩ := seen_in rfl h.2.1
          have ee1 := getD_of yy1
          exact tupon_value (v := .bool true) (by simp [go_sem, ee0, yy0, ee1, yy1]) (Below.refl _ _) rfl
        · refine ob_plain [72, 75] rfl rfl fun aa g h => ?_
          obtain ⟨_, yy0, rfl⟩ := seen_in rfl h.1
          have ee0 := getD_of yy0
          obtain ⟨_, yy1, rfl⟩ := seen_in rfl h.2.1
          have ee1 := getD_of yy1
          exact tupon_value (v := .bool true) (by simp [go_sem, ee0, yy0, ee1, yy1]) (Below.refl _ _) rfl
        · refine ob_plain [76] rfl rfl fun aa g h => ?_
          obtain ⟨_, yy0, rfl⟩ := seen_in rfl h.1
          have ee0 := getD_of yy0
          exact tupon_value (v := .bool true) (by simp [go_sem, ee0, yy0]) (Below.refl _ _) rfl
        · refine ob_gtrue [6] _ true 77 rfl rfl rfl rfl (fun v w h => h) fun aa g h => ?_
          have yy0 := seen_out (v := .pointer (some ⟨w2.heap.size, 0, none⟩)) rfl rfl h.1
          have ee0 := getD_of yy0
          exact tupon_value (v := .agg #[.int .i64 N, .slice pu T.length cu, .slice pr N cr']) (by simp [go_sem, ee0, yy0, c0 g, c1 g, c2 g]) (Below.refl _ _) rfl
        · refine ob_gtrue [7] _ true 77 rfl rfl rfl rfl (fun v w h => h) fun aa g h => ?_
          have yy0 := seen_out (v := .slice pb N cb) rfl rfl h.1
          have ee0 := getD_of yy0
          exact tupon_value (v := .slice pb N cb) (by simp [go_sem, ee0, yy0]) (Below.refl _ _) rfl
        · refine ob_gtrue [7] _ true 77 rfl rfl rfl rfl (fun v w h => h) fun aa g h => ?_
          have yy0 := seen_out (v := .slice pb N cb) rfl rfl h.1
          have ee0 := getD_of yy0
          exact tupon_value (v := .slice pb N cb) (by simp [go_sem, ee0, yy0]) (Below.refl _ _) rfl
        · refine ob_gtrue [8] _ true 77 rfl rfl rfl rfl (fun v w h => h) fun aa g h => ?_
          have yy0 := seen_out (v := .pointer (some ⟨w2.heap.size + 1, 0, none⟩)) rfl rfl h.1
          have ee0 := getD_of yy0
          exact tupon_value (v := .agg #[.int .i64 tm, .int .i64 hm]) (by simp [go_sem, ee0, yy0, s0 g, s1 g]) (Below.refl _ _) rfl
        · refine ob_gtrue [78, 79, 80, 81] _ true 77 rfl rfl rfl rfl (fun v w h => h) fun aa g h => ?_
          obtain ⟨_, yy0, rfl⟩ := seen_in rfl h.1
          have ee0 := getD_of yy0
          obtain ⟨_, yy1, rfl⟩ := seen_in rfl h.2.1
          have ee1 := getD_of yy1
          obtain ⟨_, yy2, rfl⟩ := seen_in rfl h.2.2.1
          have ee2 := getD_of yy2
          obtain ⟨_, yy3, rfl⟩ := seen_in rfl h.2.2.2.1
          have ee3 := getD_of yy3
          refine tupon_enter (f := 17) (args := #[.agg #[.int .i64 N, .slice pu T.length cu, .slice pr N cr'], .slice pb N cb, .slice pb N cb, .agg #[.int .i64 tm, .int .i64 hm]]) (by simp [go_sem, ee0, yy0, ee1, yy1, ee2, yy2, ee3, yy3]) rfl ?_
          exact (I1.out g.w (HUX.out.grow g.h) (HR.out.grow g.h) (HX.out.grow g.h) (HX.out.grow g.h)).mono fun e w' ⟨u9, he, hv, hB⟩ => ⟨_, he, hB, hv⟩
        · refine ob_gtrue [6] _ true 77 rfl rfl rfl rfl (fun v w h => h) fun aa g h => ?_
          have yy0 := seen_out (v := .pointer (some ⟨w2.heap.size, 0, none⟩)) rfl rfl h.1
          have ee0 := getD_of yy0
          exact tupon_value (v := .agg #[.int .i64 N, .slice pu T.length cu, .slice pr N cr']) (by simp [go_sem, ee0, yy0, c0 g, c1 g, c2 g]) (Below.refl _ _) rfl
        · refine ob_gtrue [7] _ true 77 rfl rfl rfl rfl (fun v w h => h) fun aa g h => ?_
          have yy0 := seen_out (v := .slice pb N cb) rfl rfl h.1
          have ee0 := getD_of yy0
          exact tupon_value (v := .slice pb N cb) (by simp [go_sem, ee0, yy0]) (Below.refl _ _) rfl
        · refine ob_gtrue [7] _ true 77 rfl rfl rfl rfl (fun v w h => h) fun aa g h => ?_
          have yy0 := seen_out (v := .slice pb N cb) rfl rfl h.1
          have ee0 := getD_of yy0
          exact tupon_value (v := .slice pb N cb) (by simp [go_sem, ee0, yy0]) (Below.refl _ _) rfl
        · refine ob_gtrue [10] _ true 77 rfl rfl rfl rfl (fun v w h => h) fun aa g h => ?_
          have yy0 := seen_out (v := .pointer (some ⟨w6.heap.size, 0, none⟩)) rfl rfl h.1
          have ee0 := getD_of yy0
          exact tupon_value (v := .agg #[.int .i64 tm2, .int .i64 hm]) (by simp [go_sem, ee0, yy0, u0 g, u1 g]) (Below.refl _ _) rfl
        · refine ob_gtrue [83, 84, 85, 86] _ true 77 rfl rfl rfl rfl (fun v w h => h) fun aa g h => ?_
          obtain ⟨_, yy0, rfl⟩ := seen_in rfl h.1
          have ee0 := getD_of yy0
          obtain ⟨_, yy1, rfl⟩ := seen_in rfl h.2.1
          have ee1 := getD_of yy1
          obtain ⟨_, yy2, rfl⟩ := seen_in rfl h.2.2.1
          have ee2 := getD_of yy2
          obtain ⟨_, yy3, rfl⟩ := seen_in rfl h.2.2.2.1
          have ee3 := getD_of yy3
          refine tupon_enter (f := 17) (args := #[.agg #[.int .i64 N, .slice pu T.length cu, .slice pr N cr'], .slice pb N cb, .slice pb N cb, .agg #[.int .i64 tm2, .int .i64 hm]]) (by simp [go_sem, ee0, yy0, ee1, yy1, ee2, yy2, ee3, yy3]) rfl ?_
          exact (I2.out g.w (HUX.out.grow g.h) (HR.out.grow g.h) (HX.out.grow g.h) (HX.out.grow g.h)).mono fun e w' ⟨u9, he, hv, hB⟩ => ⟨_, he, hB, hv⟩
        · refine ob_gtrue [82, 87] _ true 77 rfl rfl rfl rfl (fun v w h => h) fun aa g h => ?_
          obtain ⟨z82, yy0, hv82⟩ := seen_in rfl h.1
          have ee0 := getD_of yy0
          obtain ⟨z87, yy1, hv87⟩ := seen_in rfl h.2.1
          have ee1 := getD_of yy1
          refine tupon_enter (f := 16) (args := #[z82, z87]) (by simp [go_sem, ee0, yy0, ee1, yy1]) rfl ?_
          exact (SP.out _ _ g.w hv82 hv87).mono fun e w' ⟨he, hB⟩ => ⟨_, he, hB, rfl⟩
        · refine ob_plain [77, 88] rfl rfl fun aa g h => ?_
          obtain ⟨_, yy0, rfl⟩ := seen_in rfl h.1
          have ee0 := getD_of yy0
          obtain ⟨_, yy1, rfl⟩ := seen_in rfl h.2.1
          have ee1 := getD_of yy1
          exact tupon_value (v := .bool true) (by simp [go_sem, ee0, yy0, ee1, yy1]) (Below.refl _ _) rfl
        · refine ob_plain [89] rfl rfl fun aa g h => ?_
          obtain ⟨_, yy0, rfl⟩ := seen_in rfl h.1
          have ee0 := getD_of yy0
          exact tupon_value (v := .bool true) (by simp [go_sem, ee0, yy0]) (Below.refl _ _) rfl
        · refine ob_gtrue [5] _ true 90 rfl rfl rfl rfl (fun v w h => h) fun aa g h => ?_
          have yy0 := seen_out (v := .bool true) rfl rfl h.1
          have ee0 := getD_of yy0
          exact tupon_value (v := .bool true) (by simp [go_sem, ee0, yy0]) (Below.refl _ _) rfl
        · refine ob_plain [90, 91] rfl rfl fun aa g h => ?_
          obtain ⟨_, yy0, rfl⟩ := seen_in rfl h.1
          have ee0 := getD_of yy0
          obtain ⟨_, yy1, rfl⟩ := seen_in rfl h.2.1
          have ee1 := getD_of yy1
          exact tupon_value (v := .bool true) (by simp [go_sem, ee0, yy0, ee1, yy1]) (Below.refl _ _) rfl
        · refine ob_plain [92] rfl rfl fun aa g h => ?_
          obtain ⟨_, yy0, rfl⟩ := seen_in rfl h.1
          have ee0 := getD_of yy0
          exact tupon_value (v := .bool true) (by simp [go_sem, ee0, yy0]) (Below.refl _ _) rfl
      rintro w9 hB _ rfl _ rfl _ rfl _ rfl _ rfl _ rfl _ rfl _ rfl _ rfl _ rfl _ rfl _ rfl _ rfl _ rfl _ rfl _ rfl _ rfl _ rfl _ rfl _ rfl z82 hv82 _ rfl _ rfl _ rfl _ rfl z87 hv87 _ rfl _ rfl _ rfl _ rfl _ rfl _ rfl
      simp only [Act.put, List.setIfInBounds_toArray, List.set_cons_succ, List.set_cons_zero, List.filterMap_nil, finP]
      have HW := Lib.hid (below_then HW.out hB)
      clear hB c0 c1 c2 s0 s1 u0 u1
      go_wp2_with (fail)
      go_ret
      exact ⟨rfl, HW.out⟩
end Go.Proofs.Ytecmgiihacigaaa
