/-
  Package poly: powers, Eval.
-/
import Derived.Test.YtcamjoddaeefdaaPb
namespace Go.Proofs.Ytcamjoddaeefdaa
open Go.ChangeShapes Go.WideShapes Go.ChangeAt Go.RowKit
set_option linter.unusedVariables false
set_option linter.unusedSimpArgs false
set_option maxRecDepth 100000

attribute [local irreducible] Calls
theorem heapT_cell {W : World} {b k : Nat} {cs : Array Value} {t : TypeId} {z : Nat × Nat} {u : Value} (h : W.heap[b]? = some (.cells cs t z)) (hk : cs[k]? = some u) : W.cell? ⟨b, k, none⟩ = some u := by
  simp [World.cell?, h, hk]
def PFV (A : Nat) : Value := .func (.func 69) #[] #[.pointer (some ⟨A + 2, 0, none⟩), .pointer (some ⟨A, 0, none⟩), .pointer (some ⟨A + 3, 0, none⟩)]
set_option maxHeartbeats 2000000 in
theorem powers_ok (p : Option Addr) (n c : Nat) (l : List (Int × Int)) (w : World) :
    Calls Try.prog 47 #[.slice p n c] w fun e w' => e = .returned (PFV w.heap.size) ∧ PwI w (.slice p n c) l 0 w' ∧ Below w.heap.size w w' := by
  have hmm := @run_makeMap Try.prog
  unfold PFV
  go_enter Try.func47, Try.ntmps47
  go_wp2_with (fail)
  go_ret
  have h1 := Boxed.new w 51 (.slice p n c)
  have h2 := World.ownsMap_made (H := Unit) (w.alloc (.cells #[.slice p n c] 51)) Try.prog 97 elI
  have h3 := Boxed.new ((w.alloc (.cells #[.slice p n c] 51)).alloc (.map #[] 0)) 94 (.map (some (w.heap.size + 1)))
  have h4 := Boxed.new (((w.alloc (.cells #[.slice p n c] 51)).alloc (.map #[] 0)).alloc (.cells #[.map (some (w.heap.size + 1))] 94)) 72 (.func (.func 69) #[] #[.pointer (some ⟨w.heap.size + 2, 0, none⟩), .pointer (some ⟨w.heap.size, 0, none⟩), .pointer (some ⟨w.heap.size + 3, 0, none⟩)])
  simp only [World.size_alloc] at h1 h2 h3 h4
  have hB : Below w.heap.size w ((((w.alloc (.cells #[.slice p n c] 51)).alloc (.map #[] 0)).alloc (.cells #[.map (some (w.heap.size + 1))] 94)).alloc (.cells #[.func (.func 69) #[] #[.pointer (some ⟨w.heap.size + 2, 0, none⟩), .pointer (some ⟨w.heap.size, 0, none⟩), .pointer (some ⟨w.heap.size + 3, 0, none⟩)]] 72)) := ((((Below.refl _ w).alloc (Nat.le_refl _) _).alloc (by simp) _).alloc (by simp; omega) _).alloc (by simp; omega) _
  exact ⟨rfl, ⟨hB, by simp, ((h1.alloc _).alloc _).alloc _, h3.alloc _, h4, _, (h2.alloc _).alloc _, know_start l⟩, hB⟩
def ptI (c : Int) : Int × Int := (mkLo c c, mkHi c c)
def addI2 (p q : Int × Int) : Int × Int := (addLo p.1 p.2 q.1 q.2, addHi p.1 p.2 q.1 q.2)
/-- The value of a term, behind j variables. -/
def valI (box : List (Int × Int)) (t : Tm) (j : Nat) : Int × Int := (List.range j).foldl (fun v i => if 0 < t.2.getD i 0 then mulI2 v (powX (varX box i) (t.2.getD i 0).toNat) else v) (ptI t.1)
theorem valI_zero (box : List (Int × Int)) (t : Tm) : valI box t 0 = ptI t.1 := rfl
theorem valI_in {box : List (Int × Int)} {t : Tm} {j n : Nat} (hx : t.2[j]? = some (n : Int)) (h : 0 < n) : valI box t (j + 1) = mulI2 (valI box t j) (powX (varX box j) n) := by
  unfold valI
  rw [List.range_succ, List.foldl_append]
  have e : t.2.getD j 0 = (n : Int) := by rw [List.getD_eq_getElem?_getD, hx]; rfl
  simp only [List.foldl_cons, List.foldl_nil, e]
  rw [if_pos (by omega)]
  rfl
theorem valI_out {box : List (Int × Int)} {t : Tm} {j : Nat} (hx : t.2[j]? = some (0 : Int)) : valI box t (j + 1) = valI box t j := by
  unfold valI
  rw [List.range_succ, List.foldl_append]
  have e : t.2.getD j 0 = (0 : Int) := by rw [List.getD_eq_getElem?_getD, hx]; rfl
  simp only [List.foldl_cons, List.foldl_nil, e]
  rw [if_neg (by omega)]
theorem ptI_vb (c : Int) : VB2 (ptI c) := mk_vi (Int.le_refl c)
theorem valI_vb (box : List (Int × Int)) (t : Tm) (j : Nat) : VB2 (valI box t j) := by
  induction j with
  | zero => exact ptI_vb _
  | succ j ih =>
    unfold valI at *
    rw [List.range_succ, List.foldl_append]
    simp only [List.foldl_cons, List.foldl_nil]
    split
    · exact mul_vi _ _ _ _
    · exact ih
theorem vb_le {p : Int × Int} (h : VB2 p) : p.1 ≤ p.2 := by
  rcases h with h | h
  · unfold Ent at h; omega
  · exact h.2.2
def evalP (box : List (Int × Int)) (l : List Tm) : Int × Int := l.foldl (fun a t => addI2 a (valI box t 6)) (0, 0)
theorem evalP_snoc {box : List (Int × Int)} {l : List Tm} {k : Nat} {t : Tm} (hx : l[k]? = some t) : evalP box (l.take (k + 1)) = addI2 (evalP box (l.take k)) (valI box t 6) := by
  unfold evalP
  rw [List.take_add_one, hx, List.foldl_append]
  rfl
theorem evalP_vb (box : List (Int × Int)) (l : List Tm) : VB2 (evalP box l) := by
  have : ∀ (l : List Tm) (a : Int × Int), VB2 a → VB2 (l.foldl (fun a t => addI2 a (valI box t 6)) a) := by
    intro l
    induction l with
    | nil => exact fun a h => h
    | cons t l ih => exact fun a h => ih _ (add_vi (vb_le h) (vb_le (valI_vb box t 6)))
  exact this l (0, 0) (.inr (by unfold Num; decide))
/-- The loops' state. -/
structure EvI (w w1 : World) (vb : Value) (box : List (Int × Int)) (S : Nat) (acc : Int × Int) (N : Nat) (W : World) : Prop where
  pw : ∃ N', N' ≤ N ∧ PwI w1 vb box N' W
  sum : IvC W S acc
  res : IvC W w.heap.size (0, 0)
  bel : Below w.heap.size w W
theorem EvI.grow {w w1 W W' : World} {vb : Value} {box : List (Int × Int)} {S N : Nat} {acc : Int × Int} (h : EvI w w1 vb box S acc N W) (hB : Below W.heap.size W W') : EvI w w1 vb box S acc N W' := by
  obtain ⟨N', h1, h2⟩ := h.pw
  exact ⟨⟨N', h1, h2.grow hB⟩, h.sum.grow hB, h.res.grow hB, h.bel.trans (hB.mono h.bel.size)⟩
theorem EvI.mono {w w1 W : World} {vb : Value} {box : List (Int × Int)} {S N N' : Nat} {acc : Int × Int} (h : EvI w w1 vb box S acc N W) (hN : N ≤ N') : EvI w w1 vb box S acc N' W := by
  obtain ⟨N1, h1, h2⟩ := h.pw
  exact ⟨⟨N1, Nat.le_trans h1 hN, h2⟩, h.sum, h.res, h.bel⟩
set_option maxHeartbeats 16000000 in
theorem eval_ok (v vb : Value) (l : List Tm) (box : List (Int × Int)) (w : World) (hv : Tx w v l) (hb : Bx w vb box) (ht : ∀ t ∈ l, TV t) (hbv : ∀ p ∈ box, VB2 p) (hsm : l.length ≤ 1000) :
    Calls Try.prog 26 #[v, vb] w fun e w' => e = .returned (.agg #[.int .i64 (evalP box l).1, .int .i64 (evalP box l).2]) ∧ Below w.heap.size w w' := by
  obtain ⟨⟨R1, R2⟩, hR⟩ : ∃ R, evalP box l = R := ⟨_, rfl⟩
  rw [hR]
  have HRR := Lib.hid hR
  dsimp only
  clear hR
  obtain ⟨p, c, rfl⟩ := hv.cut
  have hb' := hb
  obtain ⟨_, pb, cb, rfl, _⟩ := hb'
  have HV := Lib.hid hv
  have HT := Lib.hid ht
  have HBV := Lib.hid hbv
  have hba : Below w.heap.size w (w.alloc (.cells #[.int .i64 0, .int .i64 0] 33)) := (Below.refl _ _).alloc (Nat.le_refl _) _
  have HBX := Lib.hid (hb.grow hba)
  have HP0 := Lib.hid (powers_ok pb box.length cb box (w.alloc (.cells #[.int .i64 0, .int .i64 0] 33)))
  have HR0 := Lib.hid (IvC.new w 0 0)
  have HPT := Lib.hid (fun w => iv_point 0 w)
  rw [show mkLo 0 0 = 0 by decide, show mkHi 0 0 = 0 by decide] at HPT
  unfold PFV at HP0
  clear hv hb ht hbv
  go_enter Try.func26, Try.ntmps26
  go_wp2_with (fail)
  refine HP0.out.mono ?_
  rintro e0 w2 ⟨rfl, hP2, hB2⟩
  have hB2' := below_then hba hB2
  have HP2 := Lib.hid hP2
  have HR2 := Lib.hid (HR0.out.grow hB2)
  have HB2 := Lib.hid hB2'
  clear hP2 hB2 hB2' HR0
  generalize hw1 : w.alloc (.cells #[.int .i64 0, .int .i64 0] 33) = w1 at *
  have hz1 : w1.heap.size = w.heap.size + 1 := by rw [← hw1]; simp
  clear hw1
  go_wp2_with (fail)
  refine (HPT.out _).mono ?_
  rintro e1 w3 ⟨rfl, hB3⟩
  have hba3 : Below w3.heap.size w3 (w3.alloc (.cells #[.int .i64 0, .int .i64 0] 33)) := (Below.refl _ _).alloc (Nat.le_refl _) _
  have hsS : w1.heap.size + 4 ≤ w3.heap.size := Nat.le_trans HP2.out.siz hB3.size
  have HE0 : Hid (EvI w w1 (.slice pb box.length cb) box w3.heap.size (0, 0) 0 (w3.alloc (.cells #[.int .i64 0, .int .i64 0] 33))) := Lib.hid (EvI.mk ⟨0, Nat.le_refl _, (HP2.out.grow hB3).grow hba3⟩ (IvC.new _ _ _) ((HR2.out.grow hB3).grow hba3) ((HB2.out.trans (hB3.mono HB2.out.size)).trans (hba3.mono (HB2.out.trans (hB3.mono HB2.out.size)).size)))
  clear hB3 hba3
  go_wp2_with (fail)
  go_loopw [17] (fun i wr => ∃ k : Nat, i = .int .i64 k ∧ k ≤ l.length ∧ Hid (EvI w w1 (.slice pb box.length cb) box w3.heap.size (evalP box (l.take k)) (3060 * k) wr)) (fun i _ => l.length - (intOf i).toNat)
  case atStart => exact ⟨0, rfl, Nat.zero_le _, HE0⟩
  case round =>
    clear HE0 HP0 HP2 HR2 HB2 HPT
    obtain ⟨wo, rfl⟩ : ∃ wo, wo = wr := ⟨_, rfl⟩
    obtain ⟨k, rfl, hk, HR⟩ := hrel
    by_cases hlt : k < l.length
    · have i1 : (k : Int) < l.length := by omega
      obtain ⟨t, hx⟩ : ∃ t, l[k]? = some t := ⟨_, List.getElem?_eq_getElem hlt⟩
      have htv := HT.out t (List.mem_of_getElem? hx)
      obtain ⟨ka, a0, a1, a2, a3, a4, a5, rfl⟩ := six_at htv
      obtain ⟨b, o, hp, hb, rd⟩ := HV.out.rd7 hx
      subst hp
      obtain ⟨f0, f1, f2, f3, f4, f5, f6⟩ := rd ⟨wo, HR.out.bel⟩
      dsimp only at f0 f1 f2 f3 f4 f5 f6
      have HX := Lib.hid hx
      have HTV := Lib.hid htv
      have HPK := Lib.hid (fun w => iv_point ka w)
      clear rd hx htv
      obtain ⟨⟨q1, q2⟩, hq⟩ : ∃ R, ptI ka = R := ⟨_, rfl⟩
      have hq' := hq
      unfold ptI at hq'
      simp only [Prod.mk.injEq] at hq'
      rw [hq'.1, hq'.2] at HPK
      have HQ := Lib.hid hq
      clear hq hq'
      go_wp2_with (fail)
      refine (HPK.out _).mono ?_
      rintro e4 w4 ⟨rfl, hB4⟩
      have hbt : Below wo.heap.size wo (wo.alloc (.cells #[.int .i64 ka, .int .u8 a0, .int .u8 a1, .int .u8 a2, .int .u8 a3, .int .u8 a4, .int .u8 a5] 39)) := (Below.refl _ _).alloc (Nat.le_refl _) _
      have ht4 : w4.heap[wo.heap.size]? = some (.cells #[.int .i64 ka, .int .u8 a0, .int .u8 a1, .int .u8 a2, .int .u8 a3, .int .u8 a4, .int .u8 a5] 39 (0, 0)) := (hB4.block _ (by simp)).trans (World.alloc_heap_new wo _)
      have y1 := heapT_cell ht4 (k := 1) rfl
      have y2 := heapT_cell ht4 (k := 2) rfl
      have y3 := heapT_cell ht4 (k := 3) rfl
      have y4 := heapT_cell ht4 (k := 4) rfl
      have y5 := heapT_cell ht4 (k := 5) rfl
      have y6 := heapT_cell ht4 (k := 6) rfl
      have hlt4 : wo.heap.size < w4.heap.size := (Array.getElem?_eq_some_iff.1 ht4).1
      have hB4' := below_then hbt hB4
      have hbq : Below w4.heap.size w4 (w4.alloc (.cells #[.int .i64 q1, .int .i64 q2] 33)) := (Below.refl _ _).alloc (Nat.le_refl _) _
      have hE4 := (HR.out.grow hB4').grow hbq
      have hsv : w3.heap.size < w4.heap.size := Nat.lt_of_lt_of_le HR.out.sum.lt hB4'.size
      have HJ0 : Hid (EvI w w1 (.slice pb box.length cb) box w3.heap.size (evalP box (l.take k)) (3060 * k + 510 * 0) (w4.alloc (.cells #[.int .i64 q1, .int .i64 q2] 33)) ∧ IvC (w4.alloc (.cells #[.int .i64 q1, .int .i64 q2] 33)) w4.heap.size (valI box (ka, [a0, a1, a2, a3, a4, a5]) 0)) := Lib.hid ⟨hE4, by rw [valI_zero]; dsimp only; rw [HQ.out]; exact IvC.new _ _ _⟩
      clear ht4 hB4 hbt hB4' hbq hE4
      go_wp2_with (fail)
      go_loopw [26] (fun j wr => ∃ jj : Nat, j = .int .i64 jj ∧ jj ≤ 6 ∧ Hid (EvI w w1 (.slice pb box.length cb) box w3.heap.size (evalP box (l.take k)) (3060 * k + 510 * jj) wr ∧ IvC wr w4.heap.size (valI box (ka, [a0, a1, a2, a3, a4, a5]) jj))) (fun j _ => 6 - (intOf j).toNat)
      case atStart => exact ⟨0, rfl, Nat.zero_le _, HJ0⟩
      case round =>
        clear HJ0 f0 f1 f2 f3 f4 f5 f6 y1 y2 y3 y4 y5 y6
        obtain ⟨jj, rfl, hj, HJ⟩ := hrel
        by_cases hjl : jj < 6
        · have i2 : (jj : Int) < 6 := by omega
          obtain ⟨x, hy⟩ : ∃ x, ([a0, a1, a2, a3, a4, a5] : List Int)[jj]? = some x := ⟨_, List.getElem?_eq_getElem hjl⟩
          have hxb := HTV.out.1.2 x (List.mem_of_getElem? hy)
          obtain ⟨nx, rfl⟩ : ∃ n : Nat, x = n := ⟨x.toNat, by omega⟩
          have hix := fun W => idx_e hy W
          have HY := Lib.hid hy
          clear hy
          by_cases hpos : 0 < nx
          · have hp0 : (0 : Int) < nx := by omega
            have hvi := valI_in (box := box) (t := (ka, [a0, a1, a2, a3, a4, a5])) HY.out hpos
            have hv0 := valI_vb box (ka, [a0, a1, a2, a3, a4, a5]) jj
            have hpv := powX_vb (varX_vb HBV.out jj) nx
            have hiv := HJ.out.2
            have HVI := Lib.hid hvi
            have hpk := power_ok w1 (.slice pb box.length cb) box HBX.out HBV.out nx (by omega) (by omega) jj hjl
            rw [hz1] at hpk
            have HIV := Lib.hid hiv
            generalize valI box (ka, [a0, a1, a2, a3, a4, a5]) jj = VV at *
            obtain ⟨v1, v2⟩ := VV
            generalize powX (varX box jj) nx = PP at *
            obtain ⟨r1, r2⟩ := PP
            have HML := Lib.hid (fun W => iv_mul v1 v2 r1 r2 W hv0 hpv)
            obtain ⟨⟨m1, m2⟩, hm⟩ : ∃ R, mulI2 (v1, v2) (r1, r2) = R := ⟨_, rfl⟩
            have hm' := hm
            unfold mulI2 at hm'
            simp only [Prod.mk.injEq] at hm'
            rw [hm'.1, hm'.2] at HML
            have hvn := HVI.out
            rw [hm] at hvn
            have HVN := Lib.hid hvn
            have HPK2 := Lib.hid hpk
            obtain ⟨N1, hN1, hP1⟩ := HJ.out.1.pw
            have HP1 := Lib.hid hP1.drew
            have c0 := hiv.c0
            have c1 := hiv.c1
            dsimp only at c0 c1
            clear hpk hvi hv0 hpv hm hm' hvn hiv hP1
            have hsum := Lib.hid HJ.out.1
            have HIX : Hid (∀ w5 w6 : World, wr.drew.grownBy w5 (some (w.heap.size + 1 + 1)) → Below w5.heap.size w5 w6 → IvC w6 w4.heap.size (v1, v2) ∧ IvC w6 w3.heap.size (evalP box (l.take k)) ∧ IvC w6 w.heap.size (0, 0) ∧ Below w.heap.size w w6) := Lib.hid fun w5 w6 h5 h6 => by
              have x1 : IvC wr.drew w4.heap.size (v1, v2) := HIV.out.grow ((Below.refl _ _).drew)
              have s1 : IvC wr.drew w3.heap.size (evalP box (l.take k)) := HJ.out.1.sum.grow ((Below.refl _ _).drew)
              have r1 : IvC wr.drew w.heap.size (0, 0) := HJ.out.1.res.grow ((Below.refl _ _).drew)
              have x2 : IvC w5 w4.heap.size (v1, v2) := heap_grownT h5 (by omega) x1
              have s2 : IvC w5 w3.heap.size (evalP box (l.take k)) := heap_grownT h5 (by omega) s1
              have r2 : IvC w5 w.heap.size (0, 0) := heap_grownT h5 (by omega) r1
              have b1 : Below w.heap.size w wr.drew := HJ.out.1.bel.drew
              have b2 : Below w.heap.size w w5 := b1.grown h5 b1.size (fun j hj => by cases hj; omega)
              exact ⟨x2.grow h6, s2.grow h6, r2.grow h6, b2.trans (h6.mono b2.size)⟩
            go_wp2_with (fail)
            go_region_with (first
              | (go_at_call 69; refine (HPK2.out N1 _ (by omega) HP1.out).mono ?_; rintro e5 w5 ⟨rfl, ⟨N2, hN2, hP2⟩, hg2⟩; have x5 : IvC w5 w4.heap.size (v1, v2) := (HIX.out w5 w5 hg2 (Below.refl _ _)).1; have d0 := x5.c0; have d1 := x5.c1; dsimp only at d0 d1)
              | (go_at_call 49; refine (HML.out _).mono ?_; rintro e6 w6 ⟨rfl, hB6⟩; have HI6 := Lib.hid (HIX.out w5 w6 hg2 hB6); have z0 := HI6.out.1.frozen 0; have z1 := HI6.out.1.frozen 1; have d2 := HI6.out.1.c0; have d3 := HI6.out.1.c1; dsimp only at d2 d3))
            all_goals
              have hP6 := ((hP2.grow hB6).set (b := w4.heap.size) (by omega) 0 (.int .i64 m1)).set (b := w4.heap.size) (by omega) 1 (.int .i64 m2)
              have HN : Hid (EvI w w1 (.slice pb box.length cb) box w3.heap.size (evalP box (l.take k)) (3060 * k + 510 * (jj + 1)) ((w6.setCell ⟨w4.heap.size, 0, none⟩ (.int .i64 m1)).setCell ⟨w4.heap.size, 1, none⟩ (.int .i64 m2)) ∧ IvC ((w6.setCell ⟨w4.heap.size, 0, none⟩ (.int .i64 m1)).setCell ⟨w4.heap.size, 1, none⟩ (.int .i64 m2)) w4.heap.size (valI box (ka, [a0, a1, a2, a3, a4, a5]) (jj + 1))) :=
                Lib.hid ⟨⟨⟨N2, by omega, hP6⟩, HI6.out.2.1.other (c := w4.heap.size) (by omega) _ _, HI6.out.2.2.1.other (c := w4.heap.size) (by omega) _ _, (HI6.out.2.2.2.setCell (p := ⟨w4.heap.size, 0, none⟩) (by dsimp only; omega) _).setCell (p := ⟨w4.heap.size, 1, none⟩) (by dsimp only; omega) _⟩, by rw [HVN.out]; exact HI6.out.1.set m1 m2⟩
              clear hP6 hP2 hB6 hg2 d0 d1 d2 d3 x5 z0 z1 c0 c1
              go_wp2_with (fail)
              go_roundw
              case rel => exact ⟨jj + 1, by go_num, by omega, HN⟩
              case measure => simp [intOf]; omega
          · obtain rfl : nx = 0 := by omega
            have hvi := valI_out (box := box) (t := (ka, [a0, a1, a2, a3, a4, a5])) (by simpa using HY.out)
            have HN : Hid (EvI w w1 (.slice pb box.length cb) box w3.heap.size (evalP box (l.take k)) (3060 * k + 510 * (jj + 1)) wr ∧ IvC wr w4.heap.size (valI box (ka, [a0, a1, a2, a3, a4, a5]) (jj + 1))) := Lib.hid ⟨HJ.out.1.mono (by omega), by rw [hvi]; exact HJ.out.2⟩
            clear hvi
            go_wp2_with (fail)
            go_roundw
            case rel => exact ⟨jj + 1, by go_num, by omega, HN⟩
            case measure => simp [intOf]; omega
        · obtain rfl : jj = 6 := by omega
          have hen := evalP_snoc (box := box) HX.out
          have ha := evalP_vb box (l.take k)
          have hv6 := valI_vb box (ka, [a0, a1, a2, a3, a4, a5]) 6
          have hsu := HJ.out.1.sum
          have hva := HJ.out.2
          have HHJ := Lib.hid HJ.out.1
          have HEN := Lib.hid hen
          have hsum2 : Hid (∀ W, Below wr.heap.size wr W → EvI w w1 (.slice pb box.length cb) box w3.heap.size (evalP box (l.take k)) (3060 * k + 510 * 6) W) := Lib.hid fun W h => HHJ.out.grow h
          generalize evalP box (l.take k) = AC at *
          obtain ⟨g1, g2⟩ := AC
          generalize valI box (ka, [a0, a1, a2, a3, a4, a5]) 6 = VV at *
          obtain ⟨v1, v2⟩ := VV
          have HAD := Lib.hid (fun W => iv_add g1 g2 v1 v2 W ha hv6)
          obtain ⟨⟨m1, m2⟩, hm⟩ : ∃ R, addI2 (g1, g2) (v1, v2) = R := ⟨_, rfl⟩
          have hm' := hm
          unfold addI2 at hm'
          simp only [Prod.mk.injEq] at hm'
          rw [hm'.1, hm'.2] at HAD
          have hen2 := HEN.out
          rw [hm] at hen2
          have HEN2 := Lib.hid hen2
          have c0 := hsu.c0
          have c1 := hsu.c1
          have d0 := hva.c0
          have d1 := hva.c1
          dsimp only at c0 c1 d0 d1
          clear hen ha hv6 hsu hva hm hm' hen2 HEN HJ
          rw [show ((6 : Nat) : Int) = 6 from rfl]
          go_wp2_with (fail)
          refine (HAD.out _).mono ?_
          rintro e7 w7 ⟨rfl, hB7⟩
          have hE7 := hsum2.out _ hB7
          have z0 := hE7.sum.frozen 0
          have z1 := hE7.sum.frozen 1
          have d2 := hE7.sum.c0
          have d3 := hE7.sum.c1
          dsimp only at d2 d3
          obtain ⟨N7, hN7, hP7⟩ := hE7.pw
          have HN : Hid (EvI w w1 (.slice pb box.length cb) box w3.heap.size (evalP box (l.take (k + 1))) (3060 * (k + 1)) ((w7.setCell ⟨w3.heap.size, 0, none⟩ (.int .i64 m1)).setCell ⟨w3.heap.size, 1, none⟩ (.int .i64 m2))) :=
            Lib.hid ⟨⟨N7, by omega, (hP7.set (b := w3.heap.size) (by omega) 0 (.int .i64 m1)).set (b := w3.heap.size) (by omega) 1 (.int .i64 m2)⟩, by rw [HEN2.out]; exact hE7.sum.set m1 m2, hE7.res.other (c := w3.heap.size) (by omega) _ _, (hE7.bel.setCell (p := ⟨w3.heap.size, 0, none⟩) (by dsimp only; omega) _).setCell (p := ⟨w3.heap.size, 1, none⟩) (by dsimp only; omega) _⟩
          clear hE7 hP7 hB7
          go_wp2_with (fail)
          go_roundw
          case rel => exact ⟨k + 1, by go_num, by omega, HN⟩
          case measure => simp [intOf]; omega
    · obtain rfl : k = l.length := by omega
      have hR := HR.out
      rw [List.take_of_length_le (Nat.le_refl _), HRR.out] at hR
      have c0 := hR.sum.c0
      have c1 := hR.sum.c1
      have r0 := hR.res.c0
      have r1 := hR.res.c1
      have z0 := hR.res.frozen 0
      have z1 := hR.res.frozen 1
      dsimp only at c0 c1 r0 r1
      have HB := Lib.hid hR.bel
      have hlr := hR.res.lt
      clear hR
      go_wp2_with (fail)
      refine bodyPost_ret (v := .agg #[.int .i64 R1, .int .i64 R2]) (by simp [results, Try.results26, go_sem, r0, r1]) rfl ⟨rfl, ?_⟩
      exact (HB.out.setCell (p := ⟨w.heap.size, 0, none⟩) (Nat.le_refl _) _).setCell (p := ⟨w.heap.size, 1, none⟩) (Nat.le_refl _) _
end Go.Proofs.Ytcamjoddaeefdaa
