/-
  Vectors of six numbers: axis, without.
  The length of a vector: sort.Search over a closure.
  A vector scaled to length one.
  A column of a matrix as a vector.
  The reduction by a frame.
  The direction of a vector.
  The matrix package's build of numbers; the closure that reads a frame.
  Orthogonalize: the frame, by its columns.
  Orthogonalize.
-/
import Derived.Test.YtmcdkbnpcmiojaaMap2
import Derived.Test.YtmcdkbnpcmiojaaMx
import Derived.Test.YtmcdkbnpcmiojaaFix
import Derived.Test.YtmcdkbnpcmiojaaPredIn
import Derived.Test.YtmcdkbnpcmiojaaPredK
namespace Go.Proofs.Ytmcdkbnpcmiojaa
open Go.ChangeShapes Go.WideShapes Go.ChangeAt Go.RowKit
set_option linter.unusedVariables false
set_option linter.unusedSimpArgs false
set_option maxRecDepth 100000

attribute [local irreducible] Calls
/-- Six numbers in a block. -/
def VecB (W : World) (b : Nat) (l : List Int) : Prop := W.heap[b]? = some (.cells (cy l).toArray 55 (0, 0))
def vecV (l : List Int) : Value := .agg (cy l).toArray
theorem VecB.lt {W : World} {b : Nat} {l : List Int} (h : VecB W b l) : b < W.heap.size := (Array.getElem?_eq_some_iff.1 h).1
theorem VecB.cell {W : World} {b k : Nat} {l : List Int} {x : Int} (h : VecB W b l) (hx : l[k]? = some x) : W.cell? ⟨b, k, none⟩ = some (.int .i64 x) := by
  simp [World.cell?, show W.heap[b]? = _ from h, cy, hx]
theorem VecB.frozen {W : World} {b : Nat} {l : List Int} (h : VecB W b l) (o : Nat) : W.frozen? ⟨b, o, none⟩ = false := by simp [World.frozen?, show W.heap[b]? = _ from h]
theorem VecB.set {W : World} {b : Nat} {l : List Int} (h : VecB W b l) (k : Nat) (x : Int) : VecB (W.setCell ⟨b, k, none⟩ (.int .i64 x)) b (l.set k x) := by
  have h1 := cells_set (o := k) (u := .int .i64 x) h
  refine Eq.trans h1 ?_
  simp [cy, List.map_set]
theorem VecB.grow {W W' : World} {b : Nat} {l : List Int} (h : VecB W b l) (hB : Below W.heap.size W W') : VecB W' b l := (hB.block b h.lt).trans h
theorem VecB.other {W : World} {b c k : Nat} {l : List Int} {x : Value} (h : VecB W b l) (hne : b ≠ c) : VecB (W.setCell ⟨c, k, none⟩ x) b l := (heap_set hne).trans h
theorem six {l : List Int} (h : l.length = 6) : ∃ a b c d e f, l = [a, b, c, d, e, f] := by
  match l, h with
  | [a, b, c, d, e, f], _ => exact ⟨a, b, c, d, e, f, rfl⟩
theorem dn_lim {n B : Int} (h1 : -(B * 65536) ≤ n) (h2 : n ≤ B * 65536) : -B ≤ dn n 65536 ∧ dn n 65536 ≤ B := by
  unfold dn
  rw [Int.fdiv_eq_ediv_of_nonneg _ (by decide)]
  omega
/-- The vector's parts along another. -/
def partL (w u : List Int) : List Int := (w.zip u).map fun z => dn (z.1 * z.2) 65536
def alongV (w u : List Int) : Int := (partL w u).sum
def withoutV (w u : List Int) : List Int := (w.zip u).map fun z => z.1 - dn (alongV w u * z.2) 65536
theorem part_bd {w u : List Int} (hw : ∀ a ∈ w, -67108864 ≤ a ∧ a ≤ 67108864) (hu : ∀ a ∈ u, -131072 ≤ a ∧ a ≤ 131072) : ∀ p ∈ partL w u, -134217728 ≤ p ∧ p ≤ 134217728 := by
  intro p hp
  unfold partL at hp
  obtain ⟨⟨a, b⟩, hz, rfl⟩ := List.mem_map.1 hp
  have ha := hw a (List.of_mem_zip hz).1
  have hb := hu b (List.of_mem_zip hz).2
  have := mul_bound a b 67108864 131072 ha.1 ha.2 hb.1 hb.2
  dsimp only
  exact dn_lim (by omega) (by omega)
theorem sum_bd : ∀ (l : List Int) (B : Int), (∀ p ∈ l, -B ≤ p ∧ p ≤ B) → -(B * l.length) ≤ l.sum ∧ l.sum ≤ B * l.length
  | [], B, _ => by simp
  | x :: l, B, h => by
    have h1 := h x (by simp)
    have h2 := sum_bd l B fun p hp => h p (by simp [hp])
    rw [List.sum_cons, List.length_cons]
    push_cast
    rw [Int.mul_add, Int.mul_one]
    omega
theorem sum_take (l : List Int) (k : Nat) (p : Int) (h : l[k]? = some p) : (l.take (k + 1)).sum = (l.take k).sum + p := by
  rw [List.take_add_one, h]
  simp
theorem take_bd {l : List Int} (h6 : l.length = 6) (h : ∀ p ∈ l, -134217728 ≤ p ∧ p ≤ 134217728) (k : Nat) : -805306368 ≤ (l.take k).sum ∧ (l.take k).sum ≤ 805306368 := by
  have h1 := sum_bd (l.take k) 134217728 fun p hp => h p (List.mem_of_mem_take hp)
  have h2 : (l.take k).length ≤ 6 := by rw [List.length_take]; omega
  omega
theorem axis_ok (k : Nat) (w : World) (hk : k < 6) :
    Calls Try.prog 57 #[.int .i64 (k : Int)] w fun e w' => e = .returned (vecV (([0, 0, 0, 0, 0, 0] : List Int).set k 65536)) ∧ Below w.heap.size w w' := by
  rcases (show k = 0 ∨ k = 1 ∨ k = 2 ∨ k = 3 ∨ k = 4 ∨ k = 5 by omega) with rfl | rfl | rfl | rfl | rfl | rfl
  all_goals
    go_enter Try.func57, Try.ntmps57
    go_wp2_with (fail)
    refine bodyPost_ret (v := .agg #[.int .i64 _, .int .i64 _, .int .i64 _, .int .i64 _, .int .i64 _, .int .i64 _]) (by simp [results, Try.results57, go_sem]) rfl ⟨rfl, ?_⟩
    go_grown
def LW (lw lu : List Int) (k : Nat) (m : List Int) : Prop := m.length = 6 ∧ (∀ j, j < k → m[j]? = (withoutV lw lu)[j]?) ∧ ∀ j, k ≤ j → m[j]? = lw[j]?
theorem lw_next {lw lu m : List Int} {k : Nat} {x y : Int} (h : LW lw lu k m) (hk : k < 6) (hx : lw[k]? = some x) (hy : lu[k]? = some y) : LW lw lu (k + 1) (m.set k (x - dn (alongV lw lu * y) 65536)) := by
  have hv : (withoutV lw lu)[k]? = some (x - dn (alongV lw lu * y) 65536) := by
    unfold withoutV
    rw [List.getElem?_map, (show (lw.zip lu)[k]? = some (x, y) from List.getElem?_zip_eq_some.2 ⟨hx, hy⟩)]
    rfl
  refine ⟨by rw [List.length_set]; exact h.1, fun j hj => ?_, fun j hj => ?_⟩
  · by_cases e : j = k
    · subst e
      rw [List.getElem?_set_self (by rw [h.1]; exact hk), hv]
    · rw [List.getElem?_set_ne (fun q => e q.symm)]
      exact h.2.1 j (by omega)
  · rw [List.getElem?_set_ne (by omega)]
    exact h.2.2 j (by omega)
theorem lw_end {lw lu m : List Int} (h : LW lw lu 6 m) (h1 : lw.length = 6) (h2 : lu.length = 6) : m = withoutV lw lu := by
  apply List.ext_getElem?
  intro j
  by_cases hj : j < 6
  · exact h.2.1 j hj
  · rw [List.getElem?_eq_none (by rw [h.1]; omega), List.getElem?_eq_none (by unfold withoutV; rw [List.length_map, List.length_zip]; omega)]
set_option maxHeartbeats 8000000 in
theorem without_ok (lw lu : List Int) (w : World) (h1 : lw.length = 6) (h2 : lu.length = 6) (hw : ∀ a ∈ lw, -67108864 ≤ a ∧ a ≤ 67108864) (hu : ∀ a ∈ lu, -131072 ≤ a ∧ a ≤ 131072) :
    Calls Try.prog 58 #[vecV lw, vecV lu] w fun e w' => e = .returned (vecV (withoutV lw lu)) ∧ Below w.heap.size w w' := by
  have HPB := Lib.hid (part_bd hw hu)
  have hpl : (partL lw lu).length = 6 := by unfold partL; rw [List.length_map, List.length_zip]; omega
  have HPL := Lib.hid hpl
  have HW := Lib.hid hw
  have HU := Lib.hid hu
  have H1 := Lib.hid h1
  have H2 := Lib.hid h2
  clear hw hu hpl
  obtain ⟨a0, a1, a2, a3, a4, a5, hea⟩ := six h1
  obtain ⟨b0, b1, b2, b3, b4, b5, heb⟩ := six h2
  rw [show vecV lw = .agg #[.int .i64 a0, .int .i64 a1, .int .i64 a2, .int .i64 a3, .int .i64 a4, .int .i64 a5] by rw [hea]; rfl, show vecV lu = .agg #[.int .i64 b0, .int .i64 b1, .int .i64 b2, .int .i64 b3, .int .i64 b4, .int .i64 b5] by rw [heb]; rfl]
  have HEA := Lib.hid hea
  have HEB := Lib.hid heb
  clear hea heb h1 h2
  go_enter Try.func58, Try.ntmps58
  go_wp2_with (fail)
  generalize hW0 : World.alloc (World.alloc (World.alloc w _) _) _ = W0
  have hBW : Below w.heap.size w W0 := by subst hW0; exact ((((Below.refl w.heap.size w).alloc (by go_size) _).alloc (by go_size) _).alloc (by go_size) _)
  have S0 : w.heap.size + 3 = W0.heap.size := by subst hW0; simp
  have V0 : VecB W0 w.heap.size lw := by
    rw [HEA.out]
    subst hW0
    exact (Below.heap_alloc _ _ _ (by simp; omega)).trans ((Below.heap_alloc _ _ _ (by simp)).trans (World.alloc_heap_new w _))
  have V1 : VecB W0 (w.heap.size + 1) lu := by
    rw [HEB.out]
    subst hW0
    have e := World.alloc_heap_new (World.alloc w (.cells #[.int .i64 a0, .int .i64 a1, .int .i64 a2, .int .i64 a3, .int .i64 a4, .int .i64 a5] 55)) (.cells #[.int .i64 b0, .int .i64 b1, .int .i64 b2, .int .i64 b3, .int .i64 b4, .int .i64 b5] 55)
    rw [World.size_alloc] at e
    exact (Below.heap_alloc _ _ _ (by simp)).trans e
  have V2 : VecB W0 (w.heap.size + 2) [0, 0, 0, 0, 0, 0] := by
    subst hW0
    have e := World.alloc_heap_new (World.alloc (World.alloc w (.cells #[.int .i64 a0, .int .i64 a1, .int .i64 a2, .int .i64 a3, .int .i64 a4, .int .i64 a5] 55)) (.cells #[.int .i64 b0, .int .i64 b1, .int .i64 b2, .int .i64 b3, .int .i64 b4, .int .i64 b5] 55)) (.cells #[.int .i64 0, .int .i64 0, .int .i64 0, .int .i64 0, .int .i64 0, .int .i64 0] 55)
    rw [World.size_alloc, World.size_alloc] at e
    exact e
  have HV0 := Lib.hid V0
  have HV1 := Lib.hid V1
  have HV2 := Lib.hid V2
  clear hW0 V0 V1 V2
  go_loopw [5, 12] (fun s i wr => ∃ k : Nat, i = .int .i64 k ∧ k ≤ 6 ∧ s = .int .i64 ((partL lw lu).take k).sum ∧ ∃ g : Grown W0, wr = g.w) (fun _ i _ => 6 - (intOf i).toNat)
  case atStart => exact ⟨0, rfl, Nat.zero_le _, by simp, ⟨W0, Below.refl _ _⟩, rfl⟩
  case round =>
    obtain ⟨k, rfl, hk, rfl, g0, rfl⟩ := hrel
    by_cases hlt : k < 6
    · have i1 : (k : Int) < 6 := by omega
      obtain ⟨x, hx⟩ : ∃ x, lw[k]? = some x := ⟨_, List.getElem?_eq_getElem (by rw [H1.out]; exact hlt)⟩
      obtain ⟨y, hy⟩ : ∃ y, lu[k]? = some y := ⟨_, List.getElem?_eq_getElem (by rw [H2.out]; exact hlt)⟩
      have fA := fun g : Grown W0 => (HV0.out.grow g.h).cell hx
      have fB := fun g : Grown W0 => (HV1.out.grow g.h).cell hy
      have ha := HW.out x (List.mem_of_getElem? hx)
      have hb := HU.out y (List.mem_of_getElem? hy)
      have cm := fun w => mul_any x y w (by omega) (by omega) (by omega) (by omega)
      have hp : (partL lw lu)[k]? = some (dn (x * y) 65536) := by
        unfold partL
        rw [List.getElem?_map, (show (lw.zip lu)[k]? = some (x, y) from List.getElem?_zip_eq_some.2 ⟨hx, hy⟩)]
        rfl
      have hsn := sum_take _ _ _ hp
      have hpb := HPB.out _ (List.mem_of_getElem? hp)
      have hsb := take_bd HPL.out HPB.out k
      generalize dn (x * y) 65536 = p at *
      generalize up (x * y) 65536 = p' at *
      have HSN := Lib.hid hsn
      have HCM := Lib.hid cm
      generalize ((partL lw lu).take k).sum = s at *
      clear hsn cm hp hx hy ha hb
      go_wp2_with (fail)
      refine region_quiet' g0 (by kernel_rfl) (by kernel_rfl) ?_
      repeat (go_big_quiet_step (exact qc (HCM.out _)))
      refine wpQuiet_nil ?_
      rintro _ ⟨g1, rfl⟩
      go_wp2_with (fail)
      go_roundw
      case rel => exact ⟨k + 1, by go_num, by omega, by rw [HSN.out], g1, rfl⟩
      case measure => simp [intOf]; omega
    · obtain rfl : k = 6 := by omega
      have hal : ((partL lw lu).take 6).sum = alongV lw lu := by rw [List.take_of_length_le (by rw [HPL.out]; exact Nat.le_refl _)]; rfl
      have hsb := take_bd HPL.out HPB.out 6
      rw [hal] at hsb ⊢
      rw [show ((6 : Nat) : Int) = 6 from rfl]
      have HSB := Lib.hid hsb
      clear hal hsb
      go_wp2_with (fail)
      go_loopw [29] (fun i wr => ∃ (k : Nat) (m : List Int), i = .int .i64 k ∧ k ≤ 6 ∧ Hid (LW lw lu k m) ∧ Hid (VecB wr w.heap.size m) ∧ Hid (VecB wr (w.heap.size + 1) lu) ∧ Hid (VecB wr (w.heap.size + 2) [0, 0, 0, 0, 0, 0]) ∧ Below w.heap.size w wr) (fun i _ => 6 - (intOf i).toNat)
      case atStart => exact ⟨0, lw, rfl, Nat.zero_le _, Lib.hid ⟨H1.out, fun j h => absurd h (Nat.not_lt_zero _), fun _ _ => rfl⟩, Lib.hid (HV0.out.grow g0.h), Lib.hid (HV1.out.grow g0.h), Lib.hid (HV2.out.grow g0.h), below_then hBW g0.h⟩
      case round =>
        obtain ⟨k, m, rfl, hk, HL, HA, HB, HC, hB⟩ := hrel
        by_cases hlt : k < 6
        · have i1 : (k : Int) < 6 := by omega
          obtain ⟨x, hx⟩ : ∃ x, lw[k]? = some x := ⟨_, List.getElem?_eq_getElem (by rw [H1.out]; exact hlt)⟩
          obtain ⟨y, hy⟩ : ∃ y, lu[k]? = some y := ⟨_, List.getElem?_eq_getElem (by rw [H2.out]; exact hlt)⟩
          have hmx : m[k]? = some x := by rw [HL.out.2.2 k (Nat.le_refl _), hx]
          have fB := HB.out.cell hy
          have ha := HW.out x (List.mem_of_getElem? hx)
          have hb := HU.out y (List.mem_of_getElem? hy)
          have hn := HSB.out
          have cm := fun w => mul_any (alongV lw lu) y w (by omega) (by omega) (by omega) (by omega)
          have hpb : -1610612736 ≤ dn (alongV lw lu * y) 65536 ∧ dn (alongV lw lu * y) 65536 ≤ 1610612736 := by
            have := mul_bound (alongV lw lu) y 805306368 131072 hn.1 hn.2 hb.1 hb.2
            exact dn_lim (by omega) (by omega)
          have HLN := Lib.hid (lw_next HL.out hlt hx hy)
          generalize dn (alongV lw lu * y) 65536 = p at *
          generalize up (alongV lw lu * y) 65536 = p' at *
          have HCM := Lib.hid cm
          have HMX := Lib.hid hmx
          clear cm hx hy hn hmx hb
          go_wp2_with (fail)
          refine (HCM.out _).mono ?_
          rintro e w5 ⟨rfl, hB5⟩
          have hA5 := HA.out.grow hB5
          have c0 := hA5.cell HMX.out
          have z0 := hA5.frozen k
          have HA6 := Lib.hid (hA5.set k (x - p))
          have HB6 : Hid (VecB (w5.setCell ⟨w.heap.size, k, none⟩ (.int .i64 (x - p))) (w.heap.size + 1) lu) := Lib.hid ((HB.out.grow hB5).other (by omega))
          have HC6 : Hid (VecB (w5.setCell ⟨w.heap.size, k, none⟩ (.int .i64 (x - p))) (w.heap.size + 2) [0, 0, 0, 0, 0, 0]) := Lib.hid ((HC.out.grow hB5).other (by omega))
          have hB6 : Below w.heap.size w (w5.setCell ⟨w.heap.size, k, none⟩ (.int .i64 (x - p))) := (hB.trans (hB5.mono hB.size)).setCell (p := ⟨w.heap.size, k, none⟩) (Nat.le_refl _) _
          clear hA5
          go_wp2_with (fail)
          go_roundw
          case rel =>
            exact ⟨k + 1, _, by go_num, by omega, HLN, HA6, HB6, HC6, hB6⟩
          case measure => simp [intOf]; omega
        · obtain rfl : k = 6 := by omega
          have hm := lw_end HL.out H1.out H2.out
          rw [hm] at HA
          have hvl : (withoutV lw lu).length = 6 := by unfold withoutV; rw [List.length_map, List.length_zip, H1.out, H2.out]; rfl
          obtain ⟨d0, d1, d2, d3, d4, d5, hd⟩ := six hvl
          rw [hd] at HA
          have HD := Lib.hid hd
          clear hm hvl hd
          have x0 := HA.out.cell (k := 0) rfl
          have x1 := HA.out.cell (k := 1) rfl
          have x2 := HA.out.cell (k := 2) rfl
          have x3 := HA.out.cell (k := 3) rfl
          have x4 := HA.out.cell (k := 4) rfl
          have x5 := HA.out.cell (k := 5) rfl
          have y0 := HC.out.cell (k := 0) rfl
          have y1 := HC.out.cell (k := 1) rfl
          have y2 := HC.out.cell (k := 2) rfl
          have y3 := HC.out.cell (k := 3) rfl
          have y4 := HC.out.cell (k := 4) rfl
          have y5 := HC.out.cell (k := 5) rfl
          have z0 := HC.out.frozen 0
          have z1 := HC.out.frozen 1
          have z2 := HC.out.frozen 2
          have z3 := HC.out.frozen 3
          have z4 := HC.out.frozen 4
          have z5 := HC.out.frozen 5
          go_wp2_with (fail)
          refine bodyPost_ret (v := .agg #[.int .i64 d0, .int .i64 d1, .int .i64 d2, .int .i64 d3, .int .i64 d4, .int .i64 d5]) (by simp [results, Try.results58, go_sem, y0, y1, y2, y3, y4, y5]) rfl ⟨by rw [HD.out]; rfl, ?_⟩
          have q (W : World) (k : Nat) (v : Value) (h : Below w.heap.size w W) : Below w.heap.size w (W.setCell ⟨w.heap.size + 2, k, none⟩ v) := h.setCell (p := ⟨w.heap.size + 2, k, none⟩) (by simp) v
          exact q _ _ _ (q _ _ _ (q _ _ _ (q _ _ _ (q _ _ _ (q _ _ _ hB)))))
end Go.Proofs.Ytmcdkbnpcmiojaa

namespace Go.Proofs.Ytmcdkbnpcmiojaa
open Go.ChangeShapes Go.WideShapes Go.ChangeAt Go.RowKit
set_option linter.unusedVariables false
set_option linter.unusedSimpArgs false
set_option maxRecDepth 100000

theorem wrap_fit' (n : Int) (h1 : -9223372036854775808 ≤ n) (h2 : n ≤ 9223372036854775807) : IntKind.i64.wrap n = n := by
  simp [IntKind.wrap, IntKind.bits, IntKind.signed]; omega

attribute [local irreducible] Calls
theorem len1 (X : Nat) (r sq : Int) (b : Bool) (w : World) (hc : w.cell? ⟨X, 0, none⟩ = some (.int .i64 sq)) (h0 : 0 ≤ r) (h1 : r ≤ 67108864) (hb : decide (sq < r * r) = b) :
    Calls Try.prog 75 #[.int .i64 r, .pointer (some ⟨X, 0, none⟩)] w fun e w' => e = .returned (.bool b) ∧ w' = w := by
  have hm := mul_bound r r 67108864 67108864 (by omega) h1 (by omega) h1
  have hm1 : -4611686018427387904 ≤ r * r := by omega
  have hm2 : r * r ≤ 4611686018427387904 := by omega
  clear hm
  go_enter Try.func75, Try.ntmps75
  go_wp2_with (fail)
  go_ret
  exact ⟨by rw [← hb]; rfl, rfl⟩
/-- What the search has found so far. -/
def Srch (sq i j : Int) : Prop := 0 ≤ i ∧ i ≤ j ∧ j ≤ 67108864 ∧ (i = 0 ∨ (i - 1) * (i - 1) ≤ sq) ∧ (j = 67108864 ∨ sq < j * j)
set_option maxHeartbeats 4000000 in
theorem search_ok (X : Nat) (sq : Int) (w : World) (hc : w.cell? ⟨X, 0, none⟩ = some (.int .i64 sq)) :
    Calls Try.prog 74 #[.int .i64 67108864, .func (.func 75) #[] #[.pointer (some ⟨X, 0, none⟩)]] w fun e w' => ∃ r, e = .returned (.int .i64 r) ∧ Srch sq r r ∧ w' = w := by
  have HC := Lib.hid hc
  clear hc
  go_enter Try.func74, Try.ntmps74
  go_wp2_with (fail)
  go_loopw [5, 6] (fun u v wr => ∃ i j : Int, u = .int .i64 i ∧ v = .int .i64 j ∧ Hid (Srch sq i j) ∧ wr = w) (fun u v _ => (intOf v - intOf u).toNat)
  case atStart => exact ⟨0, 67108864, rfl, rfl, Lib.hid ⟨by decide, by decide, by decide, .inl rfl, .inl rfl⟩, rfl⟩
  case round =>
    obtain ⟨i, j, rfl, rfl, HS, rfl⟩ := hrel
    have s1 := HS.out.1
    have s2 := HS.out.2.1
    have s3 := HS.out.2.2.1
    by_cases hlt : i < j
    · have hc := HC.out
      by_cases hb : sq < (i + j) / 2 * ((i + j) / 2)
      · have cl := len1 X ((i + j) / 2) sq true wr hc (by omega) (by omega) (decide_eq_true hb)
        have HN : Hid (Srch sq i ((i + j) / 2)) := Lib.hid ⟨s1, by omega, by omega, HS.out.2.2.2.1, .inr hb⟩
        have HCL := Lib.hid cl
        clear cl hb
        go_wp2_with (fail)
        refine HCL.out.mono ?_
        rintro e w' ⟨rfl, rfl⟩
        go_wp2_with (fail)
        go_roundw
        case rel => exact ⟨_, _, rfl, rfl, HN, trivial⟩
        case measure => simp [intOf]; omega
      · have cl := len1 X ((i + j) / 2) sq false wr hc (by omega) (by omega) (decide_eq_false hb)
        have HN : Hid (Srch sq ((i + j) / 2 + 1) j) := Lib.hid ⟨by omega, by omega, s3, .inr (by rw [Int.add_sub_cancel]; omega), HS.out.2.2.2.2⟩
        have HCL := Lib.hid cl
        clear cl hb
        go_wp2_with (fail)
        refine HCL.out.mono ?_
        rintro e w' ⟨rfl, rfl⟩
        go_wp2_with (fail)
        go_roundw
        case rel => exact ⟨_, _, rfl, rfl, HN, trivial⟩
        case measure => simp [intOf]; omega
    · obtain rfl : i = j := by omega
      go_wp2_with (fail)
      go_ret
      exact ⟨i, rfl, HS.out, rfl⟩
/-- The length of a vector, rounded down. -/
def sqV (l : List Int) : Int := (l.map fun x => x * x).sum
def lenV (l : List Int) : Int := min (isq (sqV l)) 67108863
theorem srch_len {sq r : Int} (h0 : 0 ≤ sq) (h : Srch sq r r) : r - 1 = min (isq sq) 67108863 ∧ 1 ≤ r := by
  obtain ⟨h1, _, h3, h4, h5⟩ := h
  have s := isq_spec h0
  have hr : 1 ≤ r := by
    rcases h5 with e | e
    · omega
    · rcases Int.lt_or_le 0 r with g | g
      · omega
      · obtain rfl : r = 0 := by omega
        simp at e
        omega
  refine ⟨?_, hr⟩
  have hle : r - 1 ≤ isq sq := by
    rcases h4 with e | e
    · omega
    · exact le_isq h0 e
  rcases h5 with e | e
  · omega
  · have := isq_lt h0 e h1
    omega
theorem sq_nn : ∀ l : List Int, 0 ≤ sqV l
  | [] => by simp [sqV]
  | x :: l => by
    have := sq_nn l
    have h2 : 0 ≤ x * x := by
      rcases Int.le_total 0 x with h | h
      · exact Int.mul_nonneg h h
      · exact Int.mul_nonneg_of_nonpos_of_nonpos h h
    unfold sqV at *
    rw [List.map_cons, List.sum_cons]
    omega
theorem take_sq {l : List Int} (h6 : l.length = 6) (h : ∀ p ∈ l, 0 ≤ p ∧ p ≤ 1152921504606846976) (k : Nat) : 0 ≤ (l.take k).sum ∧ (l.take k).sum ≤ 6917529027641081856 := by
  have nn : ∀ m : List Int, (∀ p ∈ m, 0 ≤ p ∧ p ≤ 1152921504606846976) → 0 ≤ m.sum ∧ m.sum ≤ 1152921504606846976 * m.length := by
    intro m
    induction m with
    | nil => intro _; simp
    | cons x m ih =>
      intro hm
      have h1 := hm x (by simp)
      have h2 := ih fun p hp => hm p (by simp [hp])
      rw [List.sum_cons, List.length_cons]
      push_cast
      omega
  have h1 := nn (l.take k) fun p hp => h p (List.mem_of_mem_take hp)
  have h2 : (l.take k).length ≤ 6 := by rw [List.length_take]; omega
  omega
theorem idx0 (a0 a1 a2 a3 a4 a5 : Int) (W : World) : (Instr.index 55 (.agg #[.int .i64 a0, .int .i64 a1, .int .i64 a2, .int .i64 a3, .int .i64 a4, .int .i64 a5]) (.int .i64 0)).run Try.prog W = .ok (.int .i64 a0) W := by
  first | rfl | (simp [go_sem]; rfl)
theorem idx1 (a0 a1 a2 a3 a4 a5 : Int) (W : World) : (Instr.index 55 (.agg #[.int .i64 a0, .int .i64 a1, .int .i64 a2, .int .i64 a3, .int .i64 a4, .int .i64 a5]) (.int .i64 1)).run Try.prog W = .ok (.int .i64 a1) W := by
  first | rfl | (simp [go_sem]; rfl)
theorem idx2 (a0 a1 a2 a3 a4 a5 : Int) (W : World) : (Instr.index 55 (.agg #[.int .i64 a0, .int .i64 a1, .int .i64 a2, .int .i64 a3, .int .i64 a4, .int .i64 a5]) (.int .i64 2)).run Try.prog W = .ok (.int .i64 a2) W := by
  first | rfl | (simp [go_sem]; rfl)
theorem idx3 (a0 a1 a2 a3 a4 a5 : Int) (W : World) : (Instr.index 55 (.agg #[.int .i64 a0, .int .i64 a1, .int .i64 a2, .int .i64 a3, .int .i64 a4, .int .i64 a5]) (.int .i64 3)).run Try.prog W = .ok (.int .i64 a3) W := by
  first | rfl | (simp [go_sem]; rfl)
theorem idx4 (a0 a1 a2 a3 a4 a5 : Int) (W : World) : (Instr.index 55 (.agg #[.int .i64 a0, .int .i64 a1, .int .i64 a2, .int .i64 a3, .int .i64 a4, .int .i64 a5]) (.int .i64 4)).run Try.prog W = .ok (.int .i64 a4) W := by
  first | rfl | (simp [go_sem]; rfl)
theorem idx5 (a0 a1 a2 a3 a4 a5 : Int) (W : World) : (Instr.index 55 (.agg #[.int .i64 a0, .int .i64 a1, .int .i64 a2, .int .i64 a3, .int .i64 a4, .int .i64 a5]) (.int .i64 5)).run Try.prog W = .ok (.int .i64 a5) W := by
  first | rfl | (simp [go_sem]; rfl)
set_option maxHeartbeats 8000000 in
theorem length_ok (l : List Int) (w : World) (h1 : l.length = 6) (hb : ∀ a ∈ l, -1073741824 ≤ a ∧ a ≤ 1073741824) :
    Calls Try.prog 55 #[vecV l] w fun e w' => e = .returned (.int .i64 (lenV l)) ∧ Below w.heap.size w w' := by
  have HB := Lib.hid hb
  have H1 := Lib.hid h1
  obtain ⟨a0, a1, a2, a3, a4, a5, hea⟩ := six h1
  rw [show vecV l = .agg #[.int .i64 a0, .int .i64 a1, .int .i64 a2, .int .i64 a3, .int .i64 a4, .int .i64 a5] by rw [hea]; rfl]
  have HEA := Lib.hid hea
  have hsq : ∀ a ∈ l, 0 ≤ a * a ∧ a * a ≤ 1152921504606846976 := fun a ha => by
    have h := HB.out a ha
    have := mul_bound a a 1073741824 1073741824 h.1 h.2 h.1 h.2
    refine ⟨?_, by omega⟩
    rcases Int.le_total 0 a with g | g
    · exact Int.mul_nonneg g g
    · exact Int.mul_nonneg_of_nonpos_of_nonpos g g
  have HSQ : Hid (∀ p ∈ l.map fun x => x * x, 0 ≤ p ∧ p ≤ 1152921504606846976) := Lib.hid (by
    intro p hp
    obtain ⟨a, ha, rfl⟩ := List.mem_map.1 hp
    exact hsq a ha)
  have HLV : Hid (lenV l = min (isq (sqV l)) 67108863) := Lib.hid rfl
  have HNN := Lib.hid (sq_nn l)
  clear hea hb h1 hsq
  go_enter Try.func55, Try.ntmps55
  go_wp2_with (fail)
  go_loopw [8] (fun i wr => ∃ k : Nat, i = .int .i64 k ∧ k ≤ 6 ∧ Hid (wr.cell? ⟨w.heap.size + 1, 0, none⟩ = some (.int .i64 ((l.map fun x => x * x).take k).sum)) ∧ Hid (wr.frozen? ⟨w.heap.size + 1, 0, none⟩ = false) ∧ w.heap.size + 1 < wr.heap.size ∧ Below w.heap.size w wr) (fun i _ => 6 - (intOf i).toNat)
  case atStart => exact ⟨0, rfl, Nat.zero_le _, Lib.hid (by simp [go_sem]), Lib.hid (by simp [go_sem]), by simp, ((Below.refl _ _).alloc (Nat.le_refl _) _).alloc (by simp) _⟩
  case round =>
    obtain ⟨k, rfl, hk, HC, HF, hsz, hB⟩ := hrel
    by_cases hlt : k < 6
    · obtain ⟨x, hx⟩ : ∃ x, l[k]? = some x := ⟨_, List.getElem?_eq_getElem (by rw [H1.out]; exact hlt)⟩
      have hsn := sum_take (l.map fun x => x * x) k (x * x) (by rw [List.getElem?_map, hx]; rfl)
      have hxb := HSQ.out (x * x) (List.mem_map.2 ⟨x, List.mem_of_getElem? hx, rfl⟩)
      have hsb : 0 ≤ ((l.map fun x => x * x).take k).sum ∧ ((l.map fun x => x * x).take k).sum ≤ 6917529027641081856 := take_sq (by rw [List.length_map]; exact H1.out) HSQ.out k
      have hc := HC.out
      have hf := HF.out
      rw [HEA.out] at hx
      have HSN := Lib.hid hsn
      generalize ((l.map fun x => x * x).take k).sum = s at *
      clear hsn
      rcases (show k = 0 ∨ k = 1 ∨ k = 2 ∨ k = 3 ∨ k = 4 ∨ k = 5 by omega) with rfl | rfl | rfl | rfl | rfl | rfl
      · simp only [List.getElem?_cons_zero, List.getElem?_cons_succ, Option.some.injEq] at hx
        subst hx
        rw [show ((0 : Nat) : Int) = 0 from rfl]
        have hix := idx0 a0 a1 a2 a3 a4 a5 wr
        go_wp2_with (fail)
        go_roundw
        case rel => exact ⟨1, rfl, by omega, Lib.hid (by rw [HSN.out]; exact World.cell?_setCell_same _ _ _ hc), Lib.hid (by rw [World.frozen?_setCell]; exact hf), by simpa using hsz, hB.setCell (p := ⟨w.heap.size + 1, 0, none⟩) (by simp) _⟩
        case measure => simp [intOf]
      · simp only [List.getElem?_cons_zero, List.getElem?_cons_succ, Option.some.injEq] at hx
        subst hx
        rw [show ((1 : Nat) : Int) = 1 from rfl]
        have hix := idx1 a0 a1 a2 a3 a4 a5 wr
        go_wp2_with (fail)
        go_roundw
        case rel => exact ⟨2, rfl, by omega, Lib.hid (by rw [HSN.out]; exact World.cell?_setCell_same _ _ _ hc), Lib.hid (by rw [World.frozen?_setCell]; exact hf), by simpa using hsz, hB.setCell (p := ⟨w.heap.size + 1, 0, none⟩) (by simp) _⟩
        case measure => simp [intOf]
      · simp only [List.getElem?_cons_zero, List.getElem?_cons_succ, Option.some.injEq] at hx
        subst hx
        rw [show ((2 : Nat) : Int) = 2 from rfl]
        have hix := idx2 a0 a1 a2 a3 a4 a5 wr
        go_wp2_with (fail)
        go_roundw
        case rel => exact ⟨3, rfl, by omega, Lib.hid (by rw [HSN.out]; exact World.cell?_setCell_same _ _ _ hc), Lib.hid (by rw [World.frozen?_setCell]; exact hf), by simpa using hsz, hB.setCell (p := ⟨w.heap.size + 1, 0, none⟩) (by simp) _⟩
        case measure => simp [intOf]
      · simp only [List.getElem?_cons_zero, List.getElem?_cons_succ, Option.some.injEq] at hx
        subst hx
        rw [show ((3 : Nat) : Int) = 3 from rfl]
        have hix := idx3 a0 a1 a2 a3 a4 a5 wr
        go_wp2_with (fail)
        go_roundw
        case rel => exact ⟨4, rfl, by omega, Lib.hid (by rw [HSN.out]; exact World.cell?_setCell_same _ _ _ hc), Lib.hid (by rw [World.frozen?_setCell]; exact hf), by simpa using hsz, hB.setCell (p := ⟨w.heap.size + 1, 0, none⟩) (by simp) _⟩
        case measure => simp [intOf]
      · simp only [List.getElem?_cons_zero, List.getElem?_cons_succ, Option.some.injEq] at hx
        subst hx
        rw [show ((4 : Nat) : Int) = 4 from rfl]
        have hix := idx4 a0 a1 a2 a3 a4 a5 wr
        go_wp2_with (fail)
        go_roundw
        case rel => exact ⟨5, rfl, by omega, Lib.hid (by rw [HSN.out]; exact World.cell?_setCell_same _ _ _ hc), Lib.hid (by rw [World.frozen?_setCell]; exact hf), by simpa using hsz, hB.setCell (p := ⟨w.heap.size + 1, 0, none⟩) (by simp) _⟩
        case measure => simp [intOf]
      · simp only [List.getElem?_cons_zero, List.getElem?_cons_succ, Option.some.injEq] at hx
        subst hx
        rw [show ((5 : Nat) : Int) = 5 from rfl]
        have hix := idx5 a0 a1 a2 a3 a4 a5 wr
        go_wp2_with (fail)
        go_roundw
        case rel => exact ⟨6, rfl, by omega, Lib.hid (by rw [HSN.out]; exact World.cell?_setCell_same _ _ _ hc), Lib.hid (by rw [World.frozen?_setCell]; exact hf), by simpa using hsz, hB.setCell (p := ⟨w.heap.size + 1, 0, none⟩) (by simp) _⟩
        case measure => simp [intOf]
    · obtain rfl : k = 6 := by omega
      have hc := HC.out
      rw [List.take_of_length_le (by rw [List.length_map, H1.out]; exact Nat.le_refl _)] at hc
      have hc : wr.cell? ⟨w.heap.size + 1, 0, none⟩ = some (.int .i64 (sqV l)) := hc
      have HS := Lib.hid (search_ok (w.heap.size + 1) (sqV l) wr hc)
      clear hc
      go_wp2_with (fail)
      refine HS.out.mono ?_
      rintro e w' ⟨r, rfl, hr, rfl⟩
      have hrr := srch_len HNN.out hr
      have HRR := Lib.hid hrr
      have r1 := hr.1
      have r2 := hr.2.2.1
      clear hrr hr
      go_wp2_with (fail)
      go_ret
      exact ⟨by rw [HRR.out.1, ← HLV.out]; rfl, hB⟩
end Go.Proofs.Ytmcdkbnpcmiojaa

namespace Go.Proofs.Ytmcdkbnpcmiojaa
open Go.ChangeShapes Go.WideShapes Go.ChangeAt Go.RowKit
set_option linter.unusedVariables false
set_option linter.unusedSimpArgs false
set_option maxRecDepth 100000

attribute [local irreducible] Calls
def normV (l : List Int) : List Int := l.map fun x => dn (x * 65536) (lenV l)
def NW (l : List Int) (k : Nat) (m : List Int) : Prop := m.length = 6 ∧ ∀ i, i < k → m[i]? = (normV l)[i]?
theorem nw_next {l m : List Int} {k : Nat} {x : Int} (h : NW l k m) (hk : k < 6) (hx : l[k]? = some x) : NW l (k + 1) (m.set k (dn (x * 65536) (lenV l))) := by
  refine ⟨by rw [List.length_set]; exact h.1, fun i hi => ?_⟩
  by_cases e : i = k
  · subst e
    rw [List.getElem?_set_self (by rw [h.1]; exact hk)]
    unfold normV
    rw [List.getElem?_map, hx]
    rfl
  · rw [List.getElem?_set_ne (fun q => e q.symm)]
    exact h.2 i (by omega)
theorem nw_end {l m : List Int} (h : NW l 6 m) (hl : l.length = 6) : m = normV l := by
  apply List.ext_getElem?
  intro i
  by_cases hi : i < 6
  · exact h.2 i hi
  · rw [List.getElem?_eq_none (by rw [h.1]; omega), List.getElem?_eq_none (by unfold normV; rw [List.length_map]; omega)]
set_option maxHeartbeats 8000000 in
theorem normalized_ok (l : List Int) (w : World) (h1 : l.length = 6) (hb : ∀ a ∈ l, -1073741824 ≤ a ∧ a ≤ 1073741824) (hL : 1 ≤ lenV l) :
    Calls Try.prog 56 #[vecV l] w fun e w' => e = .returned (vecV (normV l)) ∧ Below w.heap.size w w' := by
  have HB := Lib.hid hb
  have H1 := Lib.hid h1
  have HLN := Lib.hid (fun w => length_ok l w h1 hb)
  obtain ⟨a0, a1, a2, a3, a4, a5, hea⟩ := six h1
  have hv : vecV l = .agg #[.int .i64 a0, .int .i64 a1, .int .i64 a2, .int .i64 a3, .int .i64 a4, .int .i64 a5] := by rw [hea]; rfl
  rw [hv] at HLN ⊢
  have HEA := Lib.hid hea
  have HCD : Hid (∀ x w, x ∈ l → Calls Try.prog 76 #[.int .i64 x, .int .i64 (lenV l)] w fun e w' => e = .returned (.tuple #[.int .i64 (dn (x * 65536) (lenV l)), .int .i64 (up (x * 65536) (lenV l)), .int .i64 0]) ∧ Below w.heap.size w w') := Lib.hid (fun x w hx => div_any x (lenV l) w (by have := hb x hx; omega) (by have := hb x hx; omega) (by rw [beq_eq_false_iff_ne]; omega))
  have HNX := Lib.hid (fun (m : List Int) (k : Nat) (x : Int) => @nw_next l m k x)
  have HNE := Lib.hid (fun (m : List Int) (h : NW l 6 m) => nw_end h h1)
  have hnl : (normV l).length = 6 := by unfold normV; rw [List.length_map]; exact h1
  have HNL := Lib.hid hnl
  clear hea hb h1 hv hnl
  generalize hLL : lenV l = L at *
  have HLL := Lib.hid hLL
  clear hLL
  go_enter Try.func56, Try.ntmps56
  go_wp2_with (fail)
  generalize hW0 : World.alloc (World.alloc w _) _ = W0
  have hBW : Below w.heap.size w W0 := by subst hW0; exact (((Below.refl w.heap.size w).alloc (by go_size) _).alloc (by go_size) _)
  have V0 : VecB W0 w.heap.size l := by
    rw [HEA.out]
    subst hW0
    exact (Below.heap_alloc _ _ _ (by simp)).trans (World.alloc_heap_new w _)
  have V1 : VecB W0 (w.heap.size + 1) [0, 0, 0, 0, 0, 0] := by
    subst hW0
    have e := World.alloc_heap_new (World.alloc w (.cells #[.int .i64 a0, .int .i64 a1, .int .i64 a2, .int .i64 a3, .int .i64 a4, .int .i64 a5] 55)) (.cells (cy [0, 0, 0, 0, 0, 0]).toArray 55)
    rw [World.size_alloc] at e
    exact e
  have HV0 := Lib.hid V0
  have HV1 := Lib.hid V1
  clear hW0 V0 V1
  refine (HLN.out _).mono ?_
  rintro e w1 ⟨rfl, hB1⟩
  have hA1 := HV0.out.grow hB1
  have HA1 := Lib.hid hA1
  have HZ1 := Lib.hid (HV1.out.grow hB1)
  have hBB : Below w.heap.size w w1 := below_then hBW hB1
  rw [HEA.out] at hA1
  have x0 := hA1.cell (k := 0) rfl
  have x1 := hA1.cell (k := 1) rfl
  have x2 := hA1.cell (k := 2) rfl
  have x3 := hA1.cell (k := 3) rfl
  have x4 := hA1.cell (k := 4) rfl
  have x5 := hA1.cell (k := 5) rfl
  clear hA1
  go_wp2_with (fail)
  clear x0 x1 x2 x3 x4 x5
  go_loopw [9] (fun i wr => ∃ (k : Nat) (m : List Int), i = .int .i64 k ∧ k ≤ 6 ∧ Hid (NW l k m) ∧ Hid (VecB wr w.heap.size m) ∧ Hid (VecB wr (w.heap.size + 1) [0, 0, 0, 0, 0, 0]) ∧ Below w.heap.size w wr) (fun i _ => 6 - (intOf i).toNat)
  case atStart => exact ⟨0, l, rfl, Nat.zero_le _, Lib.hid ⟨H1.out, fun i h => absurd h (Nat.not_lt_zero _)⟩, HA1, HZ1, hBB⟩
  case round =>
    obtain ⟨k, m, rfl, hk, HN, HA, HZZ, hB⟩ := hrel
    by_cases hlt : k < 6
    · obtain ⟨x, hx⟩ : ∃ x, l[k]? = some x := ⟨_, List.getElem?_eq_getElem (by rw [H1.out]; exact hlt)⟩
      obtain ⟨z, hz⟩ : ∃ z, m[k]? = some z := ⟨_, List.getElem?_eq_getElem (by rw [HN.out.1]; exact hlt)⟩
      have hn := nw_next HN.out hlt hx
      rw [HLL.out] at hn
      have hcd := fun w => HCD.out x w (List.mem_of_getElem? hx)
      generalize dn (x * 65536) L = q at *
      generalize up (x * 65536) L = q' at *
      have HNN := Lib.hid hn
      have HCD := Lib.hid hcd
      have HX := Lib.hid hx
      have HZ := Lib.hid hz
      clear hn hcd hx hz
      rcases (show k = 0 ∨ k = 1 ∨ k = 2 ∨ k = 3 ∨ k = 4 ∨ k = 5 by omega) with rfl | rfl | rfl | rfl | rfl | rfl
      · have hxa : x = a0 := by
          have := HX.out
          rw [HEA.out] at this
          simpa using this.symm
        subst hxa
        rw [show ((0 : Nat) : Int) = 0 from rfl]
        have hix := idx0 x a1 a2 a3 a4 a5 wr
        go_wp2_with (fail)
        refine (HCD.out _).mono ?_
        rintro e w5 ⟨rfl, hB5⟩
        have hA5 := HA.out.grow hB5
        have c0 := hA5.cell HZ.out
        have z0 := hA5.frozen 0
        have HA6 := Lib.hid (hA5.set 0 q)
        have HZ6 : Hid (VecB (w5.setCell ⟨w.heap.size, 0, none⟩ (.int .i64 q)) (w.heap.size + 1) [0, 0, 0, 0, 0, 0]) := Lib.hid ((HZZ.out.grow hB5).other (by omega))
        have hB6 : Below w.heap.size w (w5.setCell ⟨w.heap.size, 0, none⟩ (.int .i64 q)) := (hB.trans (hB5.mono hB.size)).setCell (p := ⟨w.heap.size, 0, none⟩) (Nat.le_refl _) _
        clear hA5
        go_wp2_with (fail)
        go_roundw
        case rel => exact ⟨1, _, rfl, by omega, HNN, HA6, HZ6, hB6⟩
        case measure => simp [intOf]
      · have hxa : x = a1 := by
          have := HX.out
          rw [HEA.out] at this
          simpa using this.symm
        subst hxa
        rw [show ((1 : Nat) : Int) = 1 from rfl]
        have hix := idx1 a0 x a2 a3 a4 a5 wr
        go_wp2_with (fail)
        refine (HCD.out _).mono ?_
        rintro e w5 ⟨rfl, hB5⟩
        have hA5 := HA.out.grow hB5
        have c0 := hA5.cell HZ.out
        have z0 := hA5.frozen 1
        have HA6 := Lib.hid (hA5.set 1 q)
        have HZ6 : Hid (VecB (w5.setCell ⟨w.heap.size, 1, none⟩ (.int .i64 q)) (w.heap.size + 1) [0, 0, 0, 0, 0, 0]) := Lib.hid ((HZZ.out.grow hB5).other (by omega))
        have hB6 : Below w.heap.size w (w5.setCell ⟨w.heap.size, 1, none⟩ (.int .i64 q)) := (hB.trans (hB5.mono hB.size)).setCell (p := ⟨w.heap.size, 1, none⟩) (Nat.le_refl _) _
        clear hA5
        go_wp2_with (fail)
        go_roundw
        case rel => exact ⟨2, _, rfl, by omega, HNN, HA6, HZ6, hB6⟩
        case measure => simp [intOf]
      · have hxa : x = a2 := by
          have := HX.out
          rw [HEA.out] at this
          simpa using this.symm
        subst hxa
        rw [show ((2 : Nat) : Int) = 2 from rfl]
        have hix := idx2 a0 a1 x a3 a4 a5 wr
        go_wp2_with (fail)
        refine (HCD.out _).mono ?_
        rintro e w5 ⟨rfl, hB5⟩
        have hA5 := HA.out.grow hB5
        have c0 := hA5.cell HZ.out
        have z0 := hA5.frozen 2
        have HA6 := Lib.hid (hA5.set 2 q)
        have HZ6 : Hid (VecB (w5.setCell ⟨w.heap.size, 2, none⟩ (.int .i64 q)) (w.heap.size + 1) [0, 0, 0, 0, 0, 0]) := Lib.hid ((HZZ.out.grow hB5).other (by omega))
        have hB6 : Below w.heap.size w (w5.setCell ⟨w.heap.size, 2, none⟩ (.int .i64 q)) := (hB.trans (hB5.mono hB.size)).setCell (p := ⟨w.heap.size, 2, none⟩) (Nat.le_refl _) _
        clear hA5
        go_wp2_with (fail)
        go_roundw
        case rel => exact ⟨3, _, rfl, by omega, HNN, HA6, HZ6, hB6⟩
        case measure => simp [intOf]
      · have hxa : x = a3 := by
          have := HX.out
          rw [HEA.out] at this
          simpa using this.symm
        subst hxa
        rw [show ((3 : Nat) : Int) = 3 from rfl]
        have hix := idx3 a0 a1 a2 x a4 a5 wr
        go_wp2_with (fail)
        refine (HCD.out _).mono ?_
        rintro e w5 ⟨rfl, hB5⟩
        have hA5 := HA.out.grow hB5
        have c0 := hA5.cell HZ.out
        have z0 := hA5.frozen 3
        have HA6 := Lib.hid (hA5.set 3 q)
        have HZ6 : Hid (VecB (w5.setCell ⟨w.heap.size, 3, none⟩ (.int .i64 q)) (w.heap.size + 1) [0, 0, 0, 0, 0, 0]) := Lib.hid ((HZZ.out.grow hB5).other (by omega))
        have hB6 : Below w.heap.size w (w5.setCell ⟨w.heap.size, 3, none⟩ (.int .i64 q)) := (hB.trans (hB5.mono hB.size)).setCell (p := ⟨w.heap.size, 3, none⟩) (Nat.le_refl _) _
        clear hA5
        go_wp2_with (fail)
        go_roundw
        case rel => exact ⟨4, _, rfl, by omega, HNN, HA6, HZ6, hB6⟩
        case measure => simp [intOf]
      · have hxa : x = a4 := by
          have := HX.out
          rw [HEA.out] at this
          simpa using this.symm
        subst hxa
        rw [show ((4 : Nat) : Int) = 4 from rfl]
        have hix := idx4 a0 a1 a2 a3 x a5 wr
        go_wp2_with (fail)
        refine (HCD.out _).mono ?_
        rintro e w5 ⟨rfl, hB5⟩
        have hA5 := HA.out.grow hB5
        have c0 := hA5.cell HZ.out
        have z0 := hA5.frozen 4
        have HA6 := Lib.hid (hA5.set 4 q)
        have HZ6 : Hid (VecB (w5.setCell ⟨w.heap.size, 4, none⟩ (.int .i64 q)) (w.heap.size + 1) [0, 0, 0, 0, 0, 0]) := Lib.hid ((HZZ.out.grow hB5).other (by omega))
        have hB6 : Below w.heap.size w (w5.setCell ⟨w.heap.size, 4, none⟩ (.int .i64 q)) := (hB.trans (hB5.mono hB.size)).setCell (p := ⟨w.heap.size, 4, none⟩) (Nat.le_refl _) _
        clear hA5
        go_wp2_with (fail)
        go_roundw
        case rel => exact ⟨5, _, rfl, by omega, HNN, HA6, HZ6, hB6⟩
        case measure => simp [intOf]
      · have hxa : x = a5 := by
          have := HX.out
          rw [HEA.out] at this
          simpa using this.symm
        subst hxa
        rw [show ((5 : Nat) : Int) = 5 from rfl]
        have hix := idx5 a0 a1 a2 a3 a4 x wr
        go_wp2_with (fail)
        refine (HCD.out _).mono ?_
        rintro e w5 ⟨rfl, hB5⟩
        have hA5 := HA.out.grow hB5
        have c0 := hA5.cell HZ.out
        have z0 := hA5.frozen 5
        have HA6 := Lib.hid (hA5.set 5 q)
        have HZ6 : Hid (VecB (w5.setCell ⟨w.heap.size, 5, none⟩ (.int .i64 q)) (w.heap.size + 1) [0, 0, 0, 0, 0, 0]) := Lib.hid ((HZZ.out.grow hB5).other (by omega))
        have hB6 : Below w.heap.size w (w5.setCell ⟨w.heap.size, 5, none⟩ (.int .i64 q)) := (hB.trans (hB5.mono hB.size)).setCell (p := ⟨w.heap.size, 5, none⟩) (Nat.le_refl _) _
        clear hA5
        go_wp2_with (fail)
        go_roundw
        case rel => exact ⟨6, _, rfl, by omega, HNN, HA6, HZ6, hB6⟩
        case measure => simp [intOf]
    · obtain rfl : k = 6 := by omega
      have hm := HNE.out m HN.out
      rw [hm] at HA
      obtain ⟨d0, d1, d2, d3, d4, d5, hd⟩ := six HNL.out
      rw [hd] at HA
      have HD := Lib.hid hd
      clear hm hd
      have x0 := HA.out.cell (k := 0) rfl
      have x1 := HA.out.cell (k := 1) rfl
      have x2 := HA.out.cell (k := 2) rfl
      have x3 := HA.out.cell (k := 3) rfl
      have x4 := HA.out.cell (k := 4) rfl
      have x5 := HA.out.cell (k := 5) rfl
      have y0 := HZZ.out.cell (k := 0) rfl
      have y1 := HZZ.out.cell (k := 1) rfl
      have y2 := HZZ.out.cell (k := 2) rfl
      have y3 := HZZ.out.cell (k := 3) rfl
      have y4 := HZZ.out.cell (k := 4) rfl
      have y5 := HZZ.out.cell (k := 5) rfl
      have z0 := HZZ.out.frozen 0
      have z1 := HZZ.out.frozen 1
      have z2 := HZZ.out.frozen 2
      have z3 := HZZ.out.frozen 3
      have z4 := HZZ.out.frozen 4
      have z5 := HZZ.out.frozen 5
      go_wp2_with (fail)
      refine bodyPost_ret (v := .agg #[.int .i64 d0, .int .i64 d1, .int .i64 d2, .int .i64 d3, .int .i64 d4, .int .i64 d5]) (by simp [results, Try.results56, go_sem, y0, y1, y2, y3, y4, y5]) rfl ⟨by rw [HD.out]; rfl, ?_⟩
      have q (W : World) (k : Nat) (v : Value) (h : Below w.heap.size w W) : Below w.heap.size w (W.setCell ⟨w.heap.size + 1, k, none⟩ v) := h.setCell (p := ⟨w.heap.size + 1, k, none⟩) (by simp) v
      exact q _ _ _ (q _ _ _ (q _ _ _ (q _ _ _ (q _ _ _ (q _ _ _ hB)))))
end Go.Proofs.Ytmcdkbnpcmiojaa

namespace Go.Proofs.Ytmcdkbnpcmiojaa
open Go.ChangeShapes Go.WideShapes Go.ChangeAt Go.RowKit
set_option linter.unusedVariables false
set_option linter.unusedSimpArgs false
set_option maxRecDepth 100000

attribute [local irreducible] Calls
/-- Column j as a vector: what lies beyond the rows is 0. -/
def colE (M : List (List Int)) (j i : Nat) : Int := ((M[i]?).bind fun r => r[j]?).getD 0
def colV (M : List (List Int)) (j : Nat) : List Int := (List.range 6).map (colE M j)
def CW (M : List (List Int)) (j k : Nat) (m : List Int) : Prop := m.length = 6 ∧ (∀ i, i < k → i < 6 → m[i]? = some (colE M j i)) ∧ ∀ i, k ≤ i → i < 6 → m[i]? = some 0
theorem cw_next {M : List (List Int)} {j k : Nat} {m : List Int} {r : List Int} {x : Int} (h : CW M j k m) (hk : k < 6) (hr : M[k]? = some r) (hx : r[j]? = some x) : CW M j (k + 1) (m.set k x) := by
  have he : colE M j k = x := by simp [colE, hr, hx]
  refine ⟨by rw [List.length_set]; exact h.1, fun i hi h6 => ?_, fun i hi h6 => ?_⟩
  · by_cases e : i = k
    · subst e
      rw [List.getElem?_set_self (by rw [h.1]; exact hk), he]
    · rw [List.getElem?_set_ne (fun q => e q.symm)]
      exact h.2.1 i (by omega) h6
  · rw [List.getElem?_set_ne (by omega)]
    exact h.2.2 i (by omega) h6
theorem cw_end {M : List (List Int)} {j : Nat} {m : List Int} (h : CW M j M.length m) : m = colV M j := by
  apply List.ext_getElem?
  intro i
  unfold colV
  by_cases hi : i < 6
  · rw [List.getElem?_map, List.getElem?_range hi, Option.map_some]
    by_cases hM : i < M.length
    · exact h.2.1 i hM hi
    · rw [h.2.2 i (by omega) hi]
      simp [colE, List.getElem?_eq_none (show M.length ≤ i by omega)]
  · rw [List.getElem?_eq_none (by rw [h.1]; omega), List.getElem?_eq_none (by simp; omega)]
theorem Pt.opened {w : World} {v : Value} {l : List Int} (h : Pt w v l) : ∃ p c, v = .slice p l.length c ∧ ∀ k x, l[k]? = some x → ∃ b o, p = some ⟨b, o, none⟩ ∧ b < w.heap.size ∧ w.cell? ⟨b, o + k, none⟩ = some (.int .i64 x) := by
  obtain ⟨_, p, c, e, h2⟩ := h
  exact ⟨p, c, e, h2⟩
set_option maxHeartbeats 8000000 in
theorem column_ok (v : Value) (M : List (List Int)) (j : Nat) (w : World) (hv : Lx Pt w v M) (hM : M.length ≤ 6) (hr : ∀ r ∈ M, j < r.length) (hj : j < 6) :
    Calls Try.prog 28 #[v, .int .i64 (j : Int)] w fun e w' => e = .returned (vecV (colV M j)) ∧ Below w.heap.size w w' := by
  obtain ⟨p, c, rfl⟩ := hv.cut
  have HV := Lib.hid hv
  have HR := Lib.hid hr
  clear hv hr
  go_enter Try.func28, Try.ntmps28
  go_wp2_with (fail)
  go_loopw [10] (fun i wr => ∃ (k : Nat) (m : List Int), i = .int .i64 k ∧ k ≤ M.length ∧ Hid (CW M j k m) ∧ Hid (VecB wr (w.heap.size + 1) m) ∧ Hid (VecB wr w.heap.size [0, 0, 0, 0, 0, 0]) ∧ Below w.heap.size w wr) (fun i _ => M.length - (intOf i).toNat)
  case atStart =>
    refine ⟨0, [0, 0, 0, 0, 0, 0], rfl, Nat.zero_le _, Lib.hid ⟨rfl, fun i h => absurd h (Nat.not_lt_zero _), fun i _ h6 => ?_⟩, Lib.hid ?_, Lib.hid ?_, ((Below.refl _ _).alloc (Nat.le_refl _) _).alloc (by simp) _⟩
    · rcases (show i = 0 ∨ i = 1 ∨ i = 2 ∨ i = 3 ∨ i = 4 ∨ i = 5 by omega) with rfl | rfl | rfl | rfl | rfl | rfl <;> rfl
    · have e := World.alloc_heap_new (World.alloc w (.cells (cy [0, 0, 0, 0, 0, 0]).toArray 55)) (.cells (cy [0, 0, 0, 0, 0, 0]).toArray 55)
      rw [World.size_alloc] at e
      exact e
    · exact (Below.heap_alloc _ _ _ (by simp)).trans (World.alloc_heap_new w (.cells (cy [0, 0, 0, 0, 0, 0]).toArray 55))
  case round =>
    obtain ⟨k, m, rfl, hk, HC, HA, HZ, hB⟩ := hrel
    by_cases hlt : k < M.length
    · have i1 : (k : Int) < M.length := by omega
      have i2 : (k : Int) < 6 := by omega
      obtain ⟨r, hr⟩ : ∃ r, M[k]? = some r := ⟨_, List.getElem?_eq_getElem hlt⟩
      obtain ⟨b, o, ur, hp, hb, rd⟩ := (HV.out.grow grows_pt hB).rd grows_pt hr
      subst hp
      have fA := (rd ⟨wr, Below.refl _ _⟩).2.1
      have hpt := (rd ⟨wr, Below.refl _ _⟩).2.2
      dsimp only at fA hpt
      clear rd
      have hjr := HR.out r (List.mem_of_getElem? hr)
      obtain ⟨x, hx⟩ : ∃ x, r[j]? = some x := ⟨_, List.getElem?_eq_getElem hjr⟩
      obtain ⟨p2, c2, rfl, hc⟩ := hpt.opened
      obtain ⟨b2, o2, rfl, hb2, fB⟩ := hc j x hx
      have i3 : (j : Int) < r.length := by omega
      obtain ⟨z, hz⟩ : ∃ z, m[k]? = some z := ⟨_, List.getElem?_eq_getElem (by rw [HC.out.1]; omega)⟩
      have c0 := HA.out.cell hz
      have z0 := HA.out.frozen k
      have HCN := Lib.hid (cw_next HC.out (by omega) hr hx)
      have HAN := Lib.hid (HA.out.set k x)
      have HZN : Hid (VecB (wr.setCell ⟨w.heap.size + 1, k, none⟩ (.int .i64 x)) w.heap.size [0, 0, 0, 0, 0, 0]) := Lib.hid (HZ.out.other (by omega))
      have hBN : Below w.heap.size w (wr.setCell ⟨w.heap.size + 1, k, none⟩ (.int .i64 x)) := hB.setCell (p := ⟨w.heap.size + 1, k, none⟩) (by simp) _
      have HPT := Lib.hid hpt
      clear hr hx hz hc hjr hpt
      go_wp2_with (fail)
      go_roundw
      case rel => exact ⟨k + 1, _, by go_num, by omega, HCN, HAN, HZN, hBN⟩
      case measure => simp [intOf]; omega
    · obtain rfl : k = M.length := by omega
      have hm := cw_end HC.out
      rw [hm] at HA
      have hvl : (colV M j).length = 6 := by simp [colV]
      obtain ⟨d0, d1, d2, d3, d4, d5, hd⟩ := six hvl
      rw [hd] at HA
      have HD := Lib.hid hd
      clear hm hvl hd
      have x0 := HA.out.cell (k := 0) rfl
      have x1 := HA.out.cell (k := 1) rfl
      have x2 := HA.out.cell (k := 2) rfl
      have x3 := HA.out.cell (k := 3) rfl
      have x4 := HA.out.cell (k := 4) rfl
      have x5 := HA.out.cell (k := 5) rfl
      have y0 := HZ.out.cell (k := 0) rfl
      have y1 := HZ.out.cell (k := 1) rfl
      have y2 := HZ.out.cell (k := 2) rfl
      have y3 := HZ.out.cell (k := 3) rfl
      have y4 := HZ.out.cell (k := 4) rfl
      have y5 := HZ.out.cell (k := 5) rfl
      have z0 := HZ.out.frozen 0
      have z1 := HZ.out.frozen 1
      have z2 := HZ.out.frozen 2
      have z3 := HZ.out.frozen 3
      have z4 := HZ.out.frozen 4
      have z5 := HZ.out.frozen 5
      go_wp2_with (fail)
      refine bodyPost_ret (v := .agg #[.int .i64 d0, .int .i64 d1, .int .i64 d2, .int .i64 d3, .int .i64 d4, .int .i64 d5]) (by simp [results, Try.results28, go_sem, y0, y1, y2, y3, y4, y5]) rfl ⟨by rw [HD.out]; rfl, ?_⟩
      have q (W : World) (k : Nat) (v : Value) (h : Below w.heap.size w W) : Below w.heap.size w (W.setCell ⟨w.heap.size, k, none⟩ v) := h.setCell (p := ⟨w.heap.size, k, none⟩) (Nat.le_refl _) v
      exact q _ _ _ (q _ _ _ (q _ _ _ (q _ _ _ (q _ _ _ (q _ _ _ hB)))))
end Go.Proofs.Ytmcdkbnpcmiojaa

namespace Go.Proofs.Ytmcdkbnpcmiojaa
open Go.ChangeShapes Go.WideShapes Go.ChangeAt Go.RowKit
set_option linter.unusedVariables false
set_option linter.unusedSimpArgs false
set_option maxRecDepth 100000

attribute [local irreducible] Calls
/-- A slice of vectors. -/
def FrB (w : World) (v : Value) (us : List (List Int)) : Prop := us.length ≤ 1000 ∧ ∃ p c, v = .slice p us.length c ∧ ∀ k u, us[k]? = some u → u.length = 6 ∧ ∃ b o, p = some ⟨b, o, none⟩ ∧ b < w.heap.size ∧ ∀ i x, u[i]? = some x → w.cell? ⟨b, o + k * 6 + i, none⟩ = some (.int .i64 x)
theorem FrB.grow {w w' : World} {v : Value} {us : List (List Int)} (h : FrB w v us) (hb : Below w.heap.size w w') : FrB w' v us := by
  obtain ⟨h1, p, c, e, h2⟩ := h
  refine ⟨h1, p, c, e, fun k u hu => ?_⟩
  obtain ⟨h6, b, o, e2, hlt, hc⟩ := h2 k u hu
  exact ⟨h6, b, o, e2, Nat.lt_of_lt_of_le hlt hb.size, fun i x hx => (hb.cell (p := ⟨b, o + k * 6 + i, none⟩) hlt).trans (hc i x hx)⟩
def passV (us : List (List Int)) (w : List Int) : List Int := us.foldl withoutV w
def passN (us : List (List Int)) (w : List Int) : Nat → List Int
  | 0 => w
  | p + 1 => passV us (passN us w p)
def redV (us : List (List Int)) (w : List Int) : List Int := passN us w 3
/-- What the reduction has made of w in pass p behind k columns. -/
def redAt (us : List (List Int)) (w : List Int) (p k : Nat) : List Int := (us.take k).foldl withoutV (passN us w p)
theorem without_len {w u : List Int} (h : w.length = 6) (g : u.length = 6) : (withoutV w u).length = 6 := by
  unfold withoutV; rw [List.length_map, List.length_zip, h, g]; rfl
theorem fold_len : ∀ (us : List (List Int)) (w : List Int), w.length = 6 → (∀ u ∈ us, u.length = 6) → (us.foldl withoutV w).length = 6
  | [], _, h, _ => h
  | u :: us, w, h, g => fold_len us _ (without_len h (g u (by simp))) fun x hx => g x (by simp [hx])
theorem pass_len {us : List (List Int)} {w : List Int} (h : w.length = 6) (g : ∀ u ∈ us, u.length = 6) : ∀ p, (passN us w p).length = 6
  | 0 => h
  | p + 1 => fold_len us _ (pass_len h g p) g
theorem red_len {us : List (List Int)} {w : List Int} (h : w.length = 6) (g : ∀ u ∈ us, u.length = 6) (p k : Nat) : (redAt us w p k).length = 6 :=
  fold_len _ _ (pass_len h g p) fun u hu => g u (List.mem_of_mem_take hu)
theorem red_next {us : List (List Int)} {w u : List Int} {p k : Nat} (hu : us[k]? = some u) : redAt us w p (k + 1) = withoutV (redAt us w p k) u := by
  unfold redAt
  rw [List.take_add_one, hu]
  simp
theorem red_end {us : List (List Int)} {w : List Int} {p : Nat} : redAt us w p us.length = passN us w (p + 1) := by
  unfold redAt
  rw [List.take_of_length_le (Nat.le_refl _)]
  rfl
theorem VecB.put6 {W : World} {b : Nat} {e0 e1 e2 e3 e4 e5 : Int} (h : VecB W b [e0, e1, e2, e3, e4, e5]) (g0 g1 g2 g3 g4 g5 : Int) : VecB ((((((W.setCell ⟨b, 0, none⟩ (.int .i64 g0)).setCell ⟨b, 1, none⟩ (.int .i64 g1)).setCell ⟨b, 2, none⟩ (.int .i64 g2)).setCell ⟨b, 3, none⟩ (.int .i64 g3)).setCell ⟨b, 4, none⟩ (.int .i64 g4)).setCell ⟨b, 5, none⟩ (.int .i64 g5)) b [g0, g1, g2, g3, g4, g5] := ((((((h.set 0 g0).set 1 g1).set 2 g2).set 3 g3).set 4 g4).set 5 g5)
theorem VecB.far6 {W : World} {b c : Nat} {l : List Int} (h : VecB W c l) (hne : c ≠ b) (g0 g1 g2 g3 g4 g5 : Int) : VecB ((((((W.setCell ⟨b, 0, none⟩ (.int .i64 g0)).setCell ⟨b, 1, none⟩ (.int .i64 g1)).setCell ⟨b, 2, none⟩ (.int .i64 g2)).setCell ⟨b, 3, none⟩ (.int .i64 g3)).setCell ⟨b, 4, none⟩ (.int .i64 g4)).setCell ⟨b, 5, none⟩ (.int .i64 g5)) c l := (((((h.other hne).other hne).other hne).other hne).other hne).other hne
theorem below_put6 {n b : Nat} {W0 W : World} (h : Below n W0 W) (hb : n ≤ b) (g0 g1 g2 g3 g4 g5 : Int) : Below n W0 ((((((W.setCell ⟨b, 0, none⟩ (.int .i64 g0)).setCell ⟨b, 1, none⟩ (.int .i64 g1)).setCell ⟨b, 2, none⟩ (.int .i64 g2)).setCell ⟨b, 3, none⟩ (.int .i64 g3)).setCell ⟨b, 4, none⟩ (.int .i64 g4)).setCell ⟨b, 5, none⟩ (.int .i64 g5)) :=
  (((((h.setCell (p := ⟨b, 0, none⟩) hb _).setCell (p := ⟨b, 1, none⟩) hb _).setCell (p := ⟨b, 2, none⟩) hb _).setCell (p := ⟨b, 3, none⟩) hb _).setCell (p := ⟨b, 4, none⟩) hb _).setCell (p := ⟨b, 5, none⟩) hb _
set_option maxHeartbeats 8000000 in
theorem reduce_ok (v : Value) (us : List (List Int)) (lw : List Int) (w : World) (hv : FrB w v us) (h1 : lw.length = 6) (hu : ∀ u ∈ us, ∀ a ∈ u, -131072 ≤ a ∧ a ≤ 131072) (hok : ∀ p k, p < 3 → k < us.length → ∀ a ∈ redAt us lw p k, -67108864 ≤ a ∧ a ≤ 67108864) :
    Calls Try.prog 29 #[v, vecV lw] w fun e w' => e = .returned (vecV (redV us lw)) ∧ Below w.heap.size w w' := by
  have hl := hv.1
  have hul : ∀ u ∈ us, u.length = 6 := fun u hu => by
    obtain ⟨_, _, _, _, h2⟩ := hv
    obtain ⟨k, hk⟩ := List.getElem?_of_mem hu
    exact (h2 k u hk).1
  have HV := Lib.hid hv
  obtain ⟨p0, c0, rfl⟩ : ∃ p c, v = .slice p us.length c := by
    obtain ⟨_, p, c, e, _⟩ := hv
    exact ⟨p, c, e⟩
  have HU := Lib.hid hu
  have HUL := Lib.hid hul
  have HOK := Lib.hid hok
  have H1 := Lib.hid h1
  obtain ⟨a0, a1, a2, a3, a4, a5, hea⟩ := six h1
  rw [show vecV lw = .agg #[.int .i64 a0, .int .i64 a1, .int .i64 a2, .int .i64 a3, .int .i64 a4, .int .i64 a5] by rw [hea]; rfl]
  have HEA := Lib.hid hea
  clear hv hu hul hok h1 hea
  go_enter Try.func29, Try.ntmps29
  go_wp2_with (fail)
  generalize hW0 : World.alloc (World.alloc w _) _ = W0
  have hBW : Below w.heap.size w W0 := by subst hW0; exact (((Below.refl w.heap.size w).alloc (by go_size) _).alloc (by go_size) _)
  have V0 : VecB W0 w.heap.size lw := by
    rw [HEA.out]
    subst hW0
    exact (Below.heap_alloc _ _ _ (by simp)).trans (World.alloc_heap_new w _)
  have V1 : VecB W0 (w.heap.size + 1) [0, 0, 0, 0, 0, 0] := by
    subst hW0
    have e := World.alloc_heap_new (World.alloc w (.cells #[.int .i64 a0, .int .i64 a1, .int .i64 a2, .int .i64 a3, .int .i64 a4, .int .i64 a5] 55)) (.cells (cy [0, 0, 0, 0, 0, 0]).toArray 55)
    rw [World.size_alloc] at e
    exact e
  have HV0 := Lib.hid V0
  have HV1 := Lib.hid V1
  clear hW0 V0 V1
  go_loopw [7] (fun i wr => ∃ p : Nat, i = .int .i64 p ∧ p ≤ 3 ∧ Hid (VecB wr w.heap.size (passN us lw p)) ∧ Hid (VecB wr (w.heap.size + 1) [0, 0, 0, 0, 0, 0]) ∧ Below w.heap.size w wr) (fun i _ => 3 - (intOf i).toNat)
  case atStart => exact ⟨0, rfl, Nat.zero_le _, HV0, HV1, hBW⟩
  case round =>
    obtain ⟨p, rfl, hp, HA, HZ, hB⟩ := hrel
    by_cases hp3 : p < 3
    · have i0 : (p : Int) < 3 := by omega
      go_wp2_with (fail)
      go_loopw [11] (fun i wr => ∃ k : Nat, i = .int .i64 k ∧ k ≤ us.length ∧ Hid (VecB wr w.heap.size (redAt us lw p k)) ∧ Hid (VecB wr (w.heap.size + 1) [0, 0, 0, 0, 0, 0]) ∧ Below w.heap.size w wr) (fun i _ => us.length - (intOf i).toNat)
      case atStart => exact ⟨0, rfl, Nat.zero_le _, HA, HZ, hB⟩
      case round =>
        clear HA HZ hB
        obtain ⟨k, rfl, hk, HA, HZ, hB⟩ := hrel
        by_cases hlt : k < us.length
        · have i1 : (k : Int) < us.length := by omega
          obtain ⟨u, hu⟩ : ∃ u, us[k]? = some u := ⟨_, List.getElem?_eq_getElem hlt⟩
          have hum := List.mem_of_getElem? hu
          have hcw := fun w => without_ok (redAt us lw p k) u w (red_len H1.out HUL.out p k) (HUL.out u hum) (HOK.out p k hp3 hlt) (HU.out u hum)
          rw [← red_next hu] at hcw
          obtain ⟨b, o, hpb, hb, hc⟩ : ∃ b o, p0 = some ⟨b, o, none⟩ ∧ b < wr.heap.size ∧ ∀ i x, u[i]? = some x → wr.cell? ⟨b, o + k * 6 + i, none⟩ = some (.int .i64 x) := by
            obtain ⟨_, p', c', e, h2⟩ := HV.out.grow hB
            obtain ⟨_, b, o, e2, h3, h4⟩ := h2 k u hu
            simp only [Value.slice.injEq, and_true, true_and] at e
            exact ⟨b, o, e.1.trans e2, h3, h4⟩
          subst hpb
          obtain ⟨b0, b1, b2, b3, b4, b5, heb⟩ := six (HUL.out u hum)
          obtain ⟨e0, e1, e2, e3, e4, e5, hee⟩ := six (red_len H1.out HUL.out p k)
          obtain ⟨g0, g1, g2, g3, g4, g5, heg⟩ := six (red_len H1.out HUL.out p (k + 1))
          have HEG := Lib.hid heg
          have hA : VecB wr w.heap.size [e0, e1, e2, e3, e4, e5] := by rw [← hee]; exact HA.out
          have hcw : ∀ w, Calls Try.prog 58 #[.agg #[.int .i64 e0, .int .i64 e1, .int .i64 e2, .int .i64 e3, .int .i64 e4, .int .i64 e5], .agg #[.int .i64 b0, .int .i64 b1, .int .i64 b2, .int .i64 b3, .int .i64 b4, .int .i64 b5]] w fun e w' => e = .returned (.agg #[.int .i64 g0, .int .i64 g1, .int .i64 g2, .int .i64 g3, .int .i64 g4, .int .i64 g5]) ∧ Below w.heap.size w w' := by
            rw [heg, hee, heb] at hcw
            exact hcw
          rw [heb] at hc
          have f0 := hc 0 b0 rfl
          have f1 := hc 1 b1 rfl
          have f2 := hc 2 b2 rfl
          have f3 := hc 3 b3 rfl
          have f4 := hc 4 b4 rfl
          have f5 := hc 5 b5 rfl
          rw [Nat.add_zero] at f0
          have x0 := hA.cell (k := 0) rfl
          have x1 := hA.cell (k := 1) rfl
          have x2 := hA.cell (k := 2) rfl
          have x3 := hA.cell (k := 3) rfl
          have x4 := hA.cell (k := 4) rfl
          have x5 := hA.cell (k := 5) rfl
          have hAlt := hA.lt
          have HHA := Lib.hid hA
          have HCW := Lib.hid hcw
          clear hc hu hum heb hee heg hcw hA
          go_wp2_with (fail)
          refine (HCW.out _).mono ?_
          rintro e w5 ⟨rfl, hB5⟩
          have hB6 : Below wr.heap.size wr w5 := ((Below.refl _ _).alloc (Nat.le_refl _) _).trans (hB5.mono (by simp))
          clear hB5
          have hA5 := HHA.out.grow hB6
          have c0 := hA5.cell (k := 0) rfl
          have c1 := hA5.cell (k := 1) rfl
          have c2 := hA5.cell (k := 2) rfl
          have c3 := hA5.cell (k := 3) rfl
          have c4 := hA5.cell (k := 4) rfl
          have c5 := hA5.cell (k := 5) rfl
          have z0 := hA5.frozen 0
          have z1 := hA5.frozen 1
          have z2 := hA5.frozen 2
          have z3 := hA5.frozen 3
          have z4 := hA5.frozen 4
          have z5 := hA5.frozen 5
          have HA5 := Lib.hid hA5
          have HZ5 := Lib.hid (HZ.out.grow hB6)
          have hB7 := hB.trans (hB6.mono hB.size)
          clear hA5 x0 x1 x2 x3 x4 x5 f0 f1 f2 f3 f4 f5
          go_wp2_with (fail)
          go_roundw
          case rel => exact ⟨k + 1, by go_num, by omega, Lib.hid (by rw [HEG.out]; exact HA5.out.put6 ..), Lib.hid (HZ5.out.far6 (by omega) ..), below_put6 hB7 (Nat.le_refl _) ..⟩
          case measure => simp [intOf]; omega
        · obtain rfl : k = us.length := by omega
          rw [red_end] at HA
          go_wp2_with (fail)
          go_roundw
          case rel => exact ⟨p + 1, by go_num, by omega, HA, HZ, hB⟩
          case measure => simp [intOf]; omega
    · obtain rfl : p = 3 := by omega
      obtain ⟨d0, d1, d2, d3, d4, d5, hd⟩ := six (show (redV us lw).length = 6 from pass_len H1.out HUL.out 3)
      have hA : VecB wr w.heap.size [d0, d1, d2, d3, d4, d5] := by rw [← hd]; exact HA.out
      have HA := Lib.hid hA
      have HD := Lib.hid hd
      clear hd hA
      have x0 := HA.out.cell (k := 0) rfl
      have x1 := HA.out.cell (k := 1) rfl
      have x2 := HA.out.cell (k := 2) rfl
      have x3 := HA.out.cell (k := 3) rfl
      have x4 := HA.out.cell (k := 4) rfl
      have x5 := HA.out.cell (k := 5) rfl
      have y0 := HZ.out.cell (k := 0) rfl
      have y1 := HZ.out.cell (k := 1) rfl
      have y2 := HZ.out.cell (k := 2) rfl
      have y3 := HZ.out.cell (k := 3) rfl
      have y4 := HZ.out.cell (k := 4) rfl
      have y5 := HZ.out.cell (k := 5) rfl
      have z0 := HZ.out.frozen 0
      have z1 := HZ.out.frozen 1
      have z2 := HZ.out.frozen 2
      have z3 := HZ.out.frozen 3
      have z4 := HZ.out.frozen 4
      have z5 := HZ.out.frozen 5
      go_wp2_with (fail)
      refine bodyPost_ret (v := .agg #[.int .i64 d0, .int .i64 d1, .int .i64 d2, .int .i64 d3, .int .i64 d4, .int .i64 d5]) (by simp [results, Try.results29, go_sem, y0, y1, y2, y3, y4, y5]) rfl ⟨by rw [HD.out]; rfl, below_put6 hB (by simp) ..⟩
end Go.Proofs.Ytmcdkbnpcmiojaa

namespace Go.Proofs.Ytmcdkbnpcmiojaa
open Go.ChangeShapes Go.WideShapes Go.ChangeAt Go.RowKit
set_option linter.unusedVariables false
set_option linter.unusedSimpArgs false
set_option maxRecDepth 100000

attribute [local irreducible] Calls
def axV (k : Nat) : List Int := ([0, 0, 0, 0, 0, 0] : List Int).set k 65536
def RedOk (us : List (List Int)) (w : List Int) : Prop := (∀ p k, p < 3 → k < us.length → ∀ a ∈ redAt us w p k, -67108864 ≤ a ∧ a ≤ 67108864) ∧ ∀ a ∈ redV us w, -1073741824 ≤ a ∧ a ≤ 1073741824
def axDir (us : List (List Int)) : List Nat → List Int
  | [] => [0, 0, 0, 0, 0, 0]
  | k :: r => if 16384 ≤ lenV (redV us (axV k)) then normV (redV us (axV k)) else axDir us r
/-- The direction of w behind its reduction, or of the first axis of which enough is left. -/
def dirV (us : List (List Int)) (w : List Int) (n : Nat) : List Int := if 4096 ≤ lenV (redV us w) then normV (redV us w) else axDir us (List.range n)
/-- What the calls of one candidate do: x is the candidate, r its rest. -/
structure Cand (w : World) (v : Value) (us : List (List Int)) (r : List Int) (x0 x1 x2 x3 x4 x5 r0 r1 r2 r3 r4 r5 d0 d1 d2 d3 d4 d5 : Int) : Prop where
  rest : r = [r0, r1, r2, r3, r4, r5]
  red : ∀ W, Below w.heap.size w W → Calls Try.prog 29 #[v, .agg #[.int .i64 x0, .int .i64 x1, .int .i64 x2, .int .i64 x3, .int .i64 x4, .int .i64 x5]] W fun e w' => e = .returned (.agg #[.int .i64 r0, .int .i64 r1, .int .i64 r2, .int .i64 r3, .int .i64 r4, .int .i64 r5]) ∧ Below W.heap.size W w'
  len : ∀ W, Calls Try.prog 55 #[.agg #[.int .i64 r0, .int .i64 r1, .int .i64 r2, .int .i64 r3, .int .i64 r4, .int .i64 r5]] W fun e w' => e = .returned (.int .i64 (lenV r)) ∧ Below W.heap.size W w'
  nrm : ∀ W, 1 ≤ lenV r → Calls Try.prog 56 #[.agg #[.int .i64 r0, .int .i64 r1, .int .i64 r2, .int .i64 r3, .int .i64 r4, .int .i64 r5]] W fun e w' => e = .returned (.agg #[.int .i64 d0, .int .i64 d1, .int .i64 d2, .int .i64 d3, .int .i64 d4, .int .i64 d5]) ∧ Below W.heap.size W w'
  dir : normV r = [d0, d1, d2, d3, d4, d5]
theorem cand {w : World} {v : Value} {us : List (List Int)} {x : List Int} {x0 x1 x2 x3 x4 x5 : Int} (hv : FrB w v us) (hx : x = [x0, x1, x2, x3, x4, x5]) (hu : ∀ u ∈ us, ∀ a ∈ u, -131072 ≤ a ∧ a ≤ 131072) (hok : RedOk us x) : ∃ r0 r1 r2 r3 r4 r5 d0 d1 d2 d3 d4 d5, Cand w v us (redV us x) x0 x1 x2 x3 x4 x5 r0 r1 r2 r3 r4 r5 d0 d1 d2 d3 d4 d5 := by
  have h6 : x.length = 6 := by rw [hx]; rfl
  have hul : ∀ u ∈ us, u.length = 6 := fun u hu => by
    obtain ⟨_, _, _, _, h2⟩ := hv
    obtain ⟨k, hk⟩ := List.getElem?_of_mem hu
    exact (h2 k u hk).1
  have hr6 : (redV us x).length = 6 := pass_len h6 hul 3
  have hn6 : (normV (redV us x)).length = 6 := by unfold normV; rw [List.length_map]; exact hr6
  obtain ⟨r0, r1, r2, r3, r4, r5, hr⟩ := six hr6
  obtain ⟨d0, d1, d2, d3, d4, d5, hd⟩ := six hn6
  have ex : vecV x = .agg #[.int .i64 x0, .int .i64 x1, .int .i64 x2, .int .i64 x3, .int .i64 x4, .int .i64 x5] := by rw [hx]; rfl
  have er : vecV (redV us x) = .agg #[.int .i64 r0, .int .i64 r1, .int .i64 r2, .int .i64 r3, .int .i64 r4, .int .i64 r5] := by rw [hr]; rfl
  have ed : vecV (normV (redV us x)) = .agg #[.int .i64 d0, .int .i64 d1, .int .i64 d2, .int .i64 d3, .int .i64 d4, .int .i64 d5] := by rw [hd]; rfl
  refine ⟨r0, r1, r2, r3, r4, r5, d0, d1, d2, d3, d4, d5, hr, fun W hW => ?_, fun W => ?_, fun W h => ?_, hd⟩
  · have := reduce_ok v us x W (hv.grow hW) h6 hu hok.1
    rw [ex, er] at this
    exact this
  · have := length_ok (redV us x) W hr6 hok.2
    rw [er] at this
    exact this
  · have := normalized_ok (redV us x) W hr6 hok.2 h
    rw [er, ed] at this
    exact this
theorem axDir_app {us : List (List Int)} {k : Nat} : ∀ (l r : List Nat), (∀ j ∈ l, lenV (redV us (axV j)) < 16384) → axDir us (l ++ r) = axDir us r
  | [], _, _ => rfl
  | j :: l, r, h => by
    have h1 := h j (by simp)
    rw [List.cons_append, axDir, if_neg (by omega)]
    exact axDir_app (k := k) l r fun x hx => h x (by simp [hx])
theorem ax_hit {us : List (List Int)} {n k : Nat} (h : ∀ j, j < k → lenV (redV us (axV j)) < 16384) (hk : k < n) (hd : 16384 ≤ lenV (redV us (axV k))) : axDir us (List.range n) = normV (redV us (axV k)) := by
  rw [← List.take_append_drop k (List.range n), axDir_app (k := k) _ _ fun j hj => ?_, List.drop_eq_getElem_cons (by simpa using hk), List.getElem_range, axDir, if_pos hd]
  rw [List.take_range] at hj
  have := List.mem_range.1 hj
  exact h j (by omega)
theorem ax_miss {us : List (List Int)} {n : Nat} (h : ∀ j, j < n → lenV (redV us (axV j)) < 16384) : axDir us (List.range n) = [0, 0, 0, 0, 0, 0] := by
  have := axDir_app (us := us) (k := 0) (List.range n) [] fun j hj => h j (List.mem_range.1 hj)
  rw [List.append_nil] at this
  rw [this]
  rfl
set_option maxHeartbeats 8000000 in
theorem direction_ok (v : Value) (us : List (List Int)) (lw : List Int) (n : Nat) (w : World) (hv : FrB w v us) (h1 : lw.length = 6) (hn : n ≤ 6) (hu : ∀ u ∈ us, ∀ a ∈ u, -131072 ≤ a ∧ a ≤ 131072) (hok : RedOk us lw) (hax : ∀ k, k < n → RedOk us (axV k)) :
    Calls Try.prog 27 #[vecV lw, .int .i64 (n : Int), .func (.func 29) #[v] #[]] w fun e w' => e = .returned (vecV (dirV us lw n)) ∧ Below w.heap.size w w' := by
  obtain ⟨a0, a1, a2, a3, a4, a5, hea⟩ := six h1
  obtain ⟨r0, r1, r2, r3, r4, r5, d0, d1, d2, d3, d4, d5, hc⟩ := cand hv hea hu hok
  rw [show vecV lw = .agg #[.int .i64 a0, .int .i64 a1, .int .i64 a2, .int .i64 a3, .int .i64 a4, .int .i64 a5] by rw [hea]; rfl]
  have HV := Lib.hid hv
  have HU := Lib.hid hu
  have HAX := Lib.hid hax
  have HC := Lib.hid hc
  have HDX : Hid (dirV us lw n = if 4096 ≤ lenV (redV us lw) then normV (redV us lw) else axDir us (List.range n)) := Lib.hid rfl
  generalize redV us lw = R at *
  generalize hL : lenV R = L at *
  have HL := Lib.hid hL
  clear hv hu hax hok hc hea h1 hL
  go_enter Try.func27, Try.ntmps27
  go_wp2_with (fail)
  generalize hW0 : World.alloc (World.alloc w _) _ = W0
  have hBW : Below w.heap.size w W0 := by subst hW0; exact (((Below.refl w.heap.size w).alloc (by go_size) _).alloc (by go_size) _)
  have V1 : VecB W0 (w.heap.size + 1) [0, 0, 0, 0, 0, 0] := by
    subst hW0
    have e := World.alloc_heap_new (World.alloc w (.cells #[.int .i64 a0, .int .i64 a1, .int .i64 a2, .int .i64 a3, .int .i64 a4, .int .i64 a5] 55)) (.cells (cy [0, 0, 0, 0, 0, 0]).toArray 55)
    rw [World.size_alloc] at e
    exact e
  have HV1 := Lib.hid V1
  clear hW0 V1
  refine (HC.out.red _ hBW).mono ?_
  rintro e w1 ⟨rfl, hB1⟩
  have V2 : VecB (w1.alloc (.cells #[.int .i64 r0, .int .i64 r1, .int .i64 r2, .int .i64 r3, .int .i64 r4, .int .i64 r5] 55)) w1.heap.size [r0, r1, r2, r3, r4, r5] := World.alloc_heap_new w1 _
  have HV2 := Lib.hid V2
  clear V2
  go_wp2_with (fail)
  refine (HC.out.len _).mono ?_
  rintro e w2 ⟨rfl, hB2⟩
  have hA2 := HV2.out.grow hB2
  have x0 := hA2.cell (k := 0) rfl
  have x1 := hA2.cell (k := 1) rfl
  have x2 := hA2.cell (k := 2) rfl
  have x3 := hA2.cell (k := 3) rfl
  have x4 := hA2.cell (k := 4) rfl
  have x5 := hA2.cell (k := 5) rfl
  rw [HL.out]
  have hB02 : Below W0.heap.size W0 w2 := (hB1.alloc hB1.size _).trans (hB2.mono (by have := hB1.size; simp; omega))
  have HZ2 := Lib.hid (HV1.out.grow hB02)
  have hBE := below_then hBW hB02
  clear hA2 hB1 hB2 hB02
  by_cases hd : 4096 ≤ L
  · have HDV : Hid (dirV us lw n = normV R) := Lib.hid (by rw [HDX.out, if_pos hd])
    have HD : Hid (normV R = [d0, d1, d2, d3, d4, d5]) := Lib.hid HC.out.dir
    go_wp2_with (fail)
    refine (HC.out.nrm _ (by rw [HL.out]; omega)).mono ?_
    rintro e w3 ⟨rfl, hB3⟩
    have hZ3 := HZ2.out.grow hB3
    have hBE := hBE.trans (hB3.mono hBE.size)
    have y0 := hZ3.cell (k := 0) rfl
    have y1 := hZ3.cell (k := 1) rfl
    have y2 := hZ3.cell (k := 2) rfl
    have y3 := hZ3.cell (k := 3) rfl
    have y4 := hZ3.cell (k := 4) rfl
    have y5 := hZ3.cell (k := 5) rfl
    have z0 := hZ3.frozen 0
    have z1 := hZ3.frozen 1
    have z2 := hZ3.frozen 2
    have z3 := hZ3.frozen 3
    have z4 := hZ3.frozen 4
    have z5 := hZ3.frozen 5
    clear hZ3
    go_wp2_with (fail)
    refine bodyPost_ret (v := .agg #[.int .i64 d0, .int .i64 d1, .int .i64 d2, .int .i64 d3, .int .i64 d4, .int .i64 d5]) (by simp [results, Try.results27, go_sem, y0, y1, y2, y3, y4, y5]) rfl ⟨by rw [HDV.out, HD.out]; rfl, below_put6 hBE (by simp) ..⟩
  · have HDV : Hid (dirV us lw n = axDir us (List.range n)) := Lib.hid (by rw [HDX.out, if_neg hd])
    have hd' : L < 4096 := by omega
    go_wp2_with (fail)
    clear x0 x1 x2 x3 x4 x5
    go_loopw [19] (fun i wr => ∃ k : Nat, i = .int .i64 k ∧ k ≤ n ∧ Hid (∀ j, j < k → lenV (redV us (axV j)) < 16384) ∧ Hid (VecB wr (w.heap.size + 1) [0, 0, 0, 0, 0, 0]) ∧ Below w.heap.size w wr) (fun i _ => n - (intOf i).toNat)
    case atStart => exact ⟨0, rfl, Nat.zero_le _, Lib.hid (fun j h => absurd h (Nat.not_lt_zero _)), HZ2, hBE⟩
    case round =>
      clear hBE HZ2
      obtain ⟨k, rfl, hk, HN, HZ, hB⟩ := hrel
      by_cases hlt : k < n
      · have i1 : (k : Int) < n := by omega
        obtain ⟨e0, e1, e2, e3, e4, e5, hex⟩ := six (show (axV k).length = 6 by unfold axV; rw [List.length_set]; rfl)
        obtain ⟨q0, q1, q2, q3, q4, q5, m0, m1, m2, m3, m4, m5, hc2⟩ := cand HV.out hex HU.out (HAX.out k hlt)
        have hca := fun W => axis_ok k W (by omega)
        rw [show vecV (([0, 0, 0, 0, 0, 0] : List Int).set k 65536) = .agg #[.int .i64 e0, .int .i64 e1, .int .i64 e2, .int .i64 e3, .int .i64 e4, .int .i64 e5] by show vecV (axV k) = _; rw [hex]; rfl] at hca
        obtain ⟨L2, hL2⟩ : ∃ L2, lenV (redV us (axV k)) = L2 := ⟨_, rfl⟩
        have HL2 := Lib.hid hL2
        have HC2 := Lib.hid hc2
        have HCA := Lib.hid hca
        clear hc2 hca hex hL2
        go_wp2_with (fail)
        refine (HCA.out _).mono ?_
        rintro e w3 ⟨rfl, hB3⟩
        have hB3' : Below w.heap.size w w3 := hB.trans (hB3.mono hB.size)
        go_wp2_with (fail)
        refine (HC2.out.red _ hB3').mono ?_
        rintro e w4 ⟨rfl, hB4⟩
        have V2 : VecB (w4.alloc (.cells #[.int .i64 q0, .int .i64 q1, .int .i64 q2, .int .i64 q3, .int .i64 q4, .int .i64 q5] 55)) w4.heap.size [q0, q1, q2, q3, q4, q5] := World.alloc_heap_new w4 _
        have HV2 := Lib.hid V2
        clear V2
        go_wp2_with (fail)
        refine (HC2.out.len _).mono ?_
        rintro e w5 ⟨rfl, hB5⟩
        have hA2 := HV2.out.grow hB5
        have x0 := hA2.cell (k := 0) rfl
        have x1 := hA2.cell (k := 1) rfl
        have x2 := hA2.cell (k := 2) rfl
        have x3 := hA2.cell (k := 3) rfl
        have x4 := hA2.cell (k := 4) rfl
        have x5 := hA2.cell (k := 5) rfl
        rw [HL2.out]
        have hB35 : Below wr.heap.size wr w5 := hB3.trans ((hB4.mono hB3.size).trans (((Below.refl w4.heap.size w4).alloc (Nat.le_refl _) _ |>.trans (hB5.mono (by simp))).mono (by have := hB3.size; have := hB4.size; omega)))
        have HZ5 := Lib.hid (HZ.out.grow hB35)
        have hBE : Below w.heap.size w w5 := hB.trans (hB35.mono hB.size)
        clear hA2 hB3 hB4 hB5 hB35 hB3'
        by_cases hd2 : 16384 ≤ L2
        · have HDD : Hid (dirV us lw n = normV (redV us (axV k))) := Lib.hid (by rw [HDV.out]; exact ax_hit HN.out hlt (by rw [HL2.out]; exact hd2))
          have HDM : Hid (normV (redV us (axV k)) = [m0, m1, m2, m3, m4, m5]) := Lib.hid HC2.out.dir
          go_wp2_with (fail)
          refine (HC2.out.nrm _ (by rw [HL2.out]; omega)).mono ?_
          rintro e w6 ⟨rfl, hB6⟩
          have hZ3 := HZ5.out.grow hB6
          have hBE := hBE.trans (hB6.mono hBE.size)
          have y0 := hZ3.cell (k := 0) rfl
          have y1 := hZ3.cell (k := 1) rfl
          have y2 := hZ3.cell (k := 2) rfl
          have y3 := hZ3.cell (k := 3) rfl
          have y4 := hZ3.cell (k := 4) rfl
          have y5 := hZ3.cell (k := 5) rfl
          have z0 := hZ3.frozen 0
          have z1 := hZ3.frozen 1
          have z2 := hZ3.frozen 2
          have z3 := hZ3.frozen 3
          have z4 := hZ3.frozen 4
          have z5 := hZ3.frozen 5
          clear hZ3
          go_wp2_with (fail)
          refine bodyPost_ret (v := .agg #[.int .i64 m0, .int .i64 m1, .int .i64 m2, .int .i64 m3, .int .i64 m4, .int .i64 m5]) (by simp [results, Try.results27, go_sem, y0, y1, y2, y3, y4, y5]) rfl ⟨by rw [HDD.out, HDM.out]; rfl, below_put6 hBE (by simp) ..⟩
        · have hd3 : L2 < 16384 := by omega
          have HN2 : Hid (∀ j, j < k + 1 → lenV (redV us (axV j)) < 16384) := Lib.hid (fun j hj => by
            by_cases e : j = k
            · rw [e, HL2.out]; exact hd3
            · exact HN.out j (by omega))
          go_wp2_with (fail)
          go_roundw
          case rel => exact ⟨k + 1, by go_num, by omega, HN2, HZ5, hBE⟩
          case measure => simp [intOf]; omega
      · obtain rfl : k = n := by omega
        have HDD : Hid (dirV us lw k = [0, 0, 0, 0, 0, 0]) := Lib.hid (by rw [HDV.out]; exact ax_miss HN.out)
        have y0 := HZ.out.cell (k := 0) rfl
        have y1 := HZ.out.cell (k := 1) rfl
        have y2 := HZ.out.cell (k := 2) rfl
        have y3 := HZ.out.cell (k := 3) rfl
        have y4 := HZ.out.cell (k := 4) rfl
        have y5 := HZ.out.cell (k := 5) rfl
        have z0 := HZ.out.frozen 0
        have z1 := HZ.out.frozen 1
        have z2 := HZ.out.frozen 2
        have z3 := HZ.out.frozen 3
        have z4 := HZ.out.frozen 4
        have z5 := HZ.out.frozen 5
        have hBE := hB
        go_wp2_with (fail)
        refine bodyPost_ret (v := .agg #[.int .i64 0, .int .i64 0, .int .i64 0, .int .i64 0, .int .i64 0, .int .i64 0]) (by simp [results, Try.results27, go_sem, y0, y1, y2, y3, y4, y5]) rfl ⟨by rw [HDD.out]; rfl, below_put6 hBE (by simp) ..⟩
end Go.Proofs.Ytmcdkbnpcmiojaa

namespace Go.Proofs.Ytmcdkbnpcmiojaa
open Go.ChangeShapes Go.WideShapes Go.ChangeAt Go.RowKit
set_option linter.unusedVariables false
set_option linter.unusedSimpArgs false
set_option maxRecDepth 100000

attribute [local irreducible] Calls
set_option maxHeartbeats 16000000 in
theorem build1n (N : FuncId) (c0 : Value) (n : Nat) (F : Nat → Nat → Int) (w : World) (hn : n ≤ 1000) (ef : ∀ args w, (callFunc N args).run Try.prog w = .ok (.enter N args) w)
    (hf : ∀ (i j : Nat) (g : Grown w), i < n → j < n → Calls Try.prog N #[.int .i64 (i : Int), .int .i64 (j : Int), c0] g.w fun e w' => e = .returned (.int .i64 (F i j)) ∧ Below g.w.heap.size g.w w') :
    Calls Try.prog 30 #[.int .i64 (n : Int), .func (.func N) #[] #[c0]] w fun e W' => ∃ u, e = .returned u ∧ Lx Pt W' u (matOf F n) ∧ Below w.heap.size w W' := by
  have HF := Lib.hid hf
  clear hf
  obtain ⟨p0, pi, pz0, pz1, pz2⟩ := info_parts info_nrow
  have pmk : ∀ W : World, (Instr.makeSlice 25 (.int .i64 (n : Int)) (.int .i64 (n : Int))).run Try.prog W = .ok (.slice (some ⟨W.heap.size, 0, none⟩) n n) (W.alloc (.cells (madeCells (Value.cells (.slice none 0 0)) (n * 1)) 22)) := fun W => by
    have := run_make (P := Try.prog) W 25 22 p0 _ Try.underlying25 pi pz0 .i64 .i64 n n (by omega) (Int.le_refl _) (by rw [pz2]; omega) (by omega)
    rw [pz1] at this
    simpa using this
  clear pi pz0 pz1 pz2
  obtain ⟨q0, qi, qz0, qz1, qz2⟩ := info_parts info_i64
  have qmk : ∀ W : World, (Instr.makeSlice 22 (.int .i64 (n : Int)) (.int .i64 (n : Int))).run Try.prog W = .ok (.slice (some ⟨W.heap.size, 0, none⟩) n n) (W.alloc (.cells (madeCells (Value.cells (.int .i64 0)) (n * 1)) 2)) := fun W => by
    have := run_make (P := Try.prog) W 22 2 q0 _ Try.underlying22 qi qz0 .i64 .i64 n n (by omega) (Int.le_refl _) (by rw [qz2]; omega) (by omega)
    rw [qz1] at this
    simpa using this
  clear qi qz0 qz1 qz2
  obtain ⟨W1, hW1⟩ : ∃ W1, w.alloc (.cells (madeCells (Value.cells (.slice none 0 0)) (n * 1)) 22) = W1 := ⟨_, rfl⟩
  have pmk0 := pmk w
  rw [hW1] at pmk0
  obtain ⟨rest, hrow0, hsl0⟩ : ∃ rest, W1.ownsRow w.heap.size 22 1 (.slice (some ⟨w.heap.size, 0, none⟩) n n) n rest ∧ (∀ u ∈ rest, IsSl u) := by
    rw [← hW1]
    exact ⟨_, World.ownsRow_lit w _ n (Nat.le_refl _) (by unfold maxLen; omega) (size_madeCells _ _), made_sl _⟩
  have HSL := Lib.hid hsl0
  have hB1 : Below w.heap.size w W1 := by rw [← hW1]; exact (Below.refl _ w).alloc (Nat.le_refl _) _
  clear hsl0 hW1 pmk
  have QMK := Lib.hid qmk
  clear qmk
  go_enter Try.func30, Try.ntmps30
  go_wp2_with (fail)
  go_loopw [11] (fun i wr => ∃ (k : Nat) (us rest : List Value), i = .int .i64 k ∧ k ≤ n ∧ Hid (us.length = k) ∧ Hid (∀ (j : Nat) (u : Value), us[j]? = some u → Pt wr u (rowOf F n j)) ∧ wr.ownsRow w.heap.size 22 1 (.slice (some ⟨w.heap.size, 0, none⟩) n n) n (us ++ rest) ∧ Hid (∀ u ∈ us ++ rest, IsSl u) ∧ Below w.heap.size w wr) (fun i _ => n - (intOf i).toNat)
  case atStart => exact ⟨0, [], rest, rfl, Nat.zero_le _, Lib.hid rfl, Lib.hid (fun j u h => by simp at h), by simpa using hrow0, Lib.hid (by simpa using HSL.out), hB1⟩
  case round =>
    obtain ⟨k, us, rest', rfl, hk, HU, HQ, hrow, HS, hB⟩ := hrel
    obtain ⟨wo, rfl⟩ : ∃ wo, wo = wr := ⟨_, rfl⟩
    by_cases hlt : k < n
    · have hlk : (k : Int) < n := by omega
      have hwl : w.heap.size < wo.heap.size := (hrow.lt w.heap.size rfl).2
      have qm := QMK.out wo
      obtain ⟨w2, hw2⟩ : ∃ w2, wo.alloc (.cells (madeCells (Value.cells (.int .i64 0)) (n * 1)) 2) = w2 := ⟨_, rfl⟩
      rw [hw2] at qm
      have hB2 : Below w.heap.size w w2 := by rw [← hw2]; exact hB.alloc hB.size _
      have hk2 : Keep wo w2 w.heap.size := by rw [← hw2]; exact Keep.of ((Below.refl _ _).alloc (Nat.le_refl _) _)
      have hrow2 : w2.ownsRow w.heap.size 22 1 (.slice (some ⟨w.heap.size, 0, none⟩) n n) n (us ++ rest') := by rw [← hw2]; exact hrow.alloc _
      obtain ⟨cs0, hin0⟩ : ∃ cs, w2.ownsRow wo.heap.size 2 1 (.slice (some ⟨wo.heap.size, 0, none⟩) n n) n cs := by
        rw [← hw2]
        exact ⟨_, World.ownsRow_lit wo _ n (Nat.le_refl _) (by unfold maxLen; omega) (size_madeCells _ _)⟩
      have hsl := row_sl hrow HS.out
      have HSB := Lib.hid hsl
      obtain ⟨hlen5, _⟩ := id hrow2
      rw [List.length_append, HU.out] at hlen5
      match rest', hlen5 with
      | [], h => exfalso; simp at h; omega
      | r0 :: rest'', h =>
      have q0 := hrow2.cellAt k (by omega)
      rw [List.getElem?_append_right (by rw [HU.out]; omega), HU.out, Nat.sub_self] at q0
      simp only [List.getElem?_cons_zero] at q0
      have z0 := hrow2.frozenAt k
      clear h
      have s1 := hrow2.stored k (.slice (some ⟨wo.heap.size, 0, none⟩) n n)
      have e2 : (us ++ r0 :: rest'').set k (.slice (some ⟨wo.heap.size, 0, none⟩) n n) = us ++ [.slice (some ⟨wo.heap.size, 0, none⟩) n n] ++ rest'' := by
        rw [List.set_append_right _ _ (by rw [HU.out]; omega), HU.out, Nat.sub_self]
        simp
      rw [e2] at s1
      have hin1 := hin0.kept s1.2 (.inr (by simp [Value.ownBlock]; omega))
      have hB3 : Below w.heap.size w (w2.setCell ⟨w.heap.size, k, none⟩ (.slice (some ⟨wo.heap.size, 0, none⟩) n n)) := hB2.setCell (p := ⟨w.heap.size, k, none⟩) (Nat.le_refl _) _
      have hk3 : Keep wo (w2.setCell ⟨w.heap.size, k, none⟩ (.slice (some ⟨wo.heap.size, 0, none⟩) n n)) w.heap.size := hk2.set
      have hs5 : ∀ u ∈ us ++ [.slice (some ⟨wo.heap.size, 0, none⟩) n n] ++ rest'', IsSl u := by
        intro u hu
        simp only [List.append_assoc, List.mem_append, List.mem_singleton] at hu
        rcases hu with hu | rfl | hu
        · exact HS.out u (by simp [hu])
        · exact ⟨_, _, _, rfl⟩
        · exact HS.out u (by simp [hu])
      have HS5 := Lib.hid hs5
      have hout1 := s1.1
      have HK3 := Lib.hid hk3
      clear hs5 s1 e2 hin0 hrow2 hk2 hsl hk3 hw2
      go_wp2_with (fail)
      go_loopw [20] (fun j wr => ∃ (c : Nat) (ts : List Value), j = .int .i64 c ∧ c ≤ n ∧ wr.ownsRow w.heap.size 22 1 (.slice (some ⟨w.heap.size, 0, none⟩) n n) n (us ++ [.slice (some ⟨wo.heap.size, 0, none⟩) n n] ++ rest'') ∧ wr.ownsRow wo.heap.size 2 1 (.slice (some ⟨wo.heap.size, 0, none⟩) n n) n (cy (((List.range n).take c).map (F k)) ++ ts) ∧ Hid (Keep wo wr w.heap.size) ∧ Below w.heap.size w wr) (fun j _ => n - (intOf j).toNat)
      case atStart => exact ⟨0, cs0, rfl, Nat.zero_le _, hout1, by simpa [cy] using hin1, HK3, hB3⟩
      case round =>
        clear q0 z0 hout1 hin1 hB3 HK3
        obtain ⟨c, ts, rfl, hc, hout, hin, HK, hB4⟩ := hrel
        by_cases hcl : c < n
        · have hci : (c : Int) < n := by omega
          have hC : ∀ g : Grown wr, Calls Try.prog N #[.int .i64 (k : Int), .int .i64 (c : Int), c0] g.w fun e w' => e = .returned (.int .i64 (F k c)) ∧ Below g.w.heap.size g.w w' := fun g => HF.out k c ⟨g.w, below_then hB4 g.h⟩ hlt hcl
          obtain ⟨f1, hF⟩ : ∃ f1, F k c = f1 := ⟨_, rfl⟩
          rw [hF] at hC
          have HC := Lib.hid hC
          have hX : ((List.range n).take (c + 1)).map (F k) = ((List.range n).take c).map (F k) ++ [f1] := by rw [row_take (F k) hcl, hF]
          have HX := Lib.hid hX
          have hlc : (cy (((List.range n).take c).map (F k))).length = c * 1 := by rw [cy_len, List.length_map, List.length_take, List.length_range]; omega
          obtain ⟨cs, hcs⟩ : ∃ cs, cy (((List.range n).take c).map (F k)) = cs := ⟨_, rfl⟩
          rw [hcs] at hin hlc
          have HCS := Lib.hid hcs
          have HL := Lib.hid hlc
          clear hC hX hF hcs hlc
          have hol := hout.lt w.heap.size rfl
          have hil := hin.lt wo.heap.size rfl
          have hoc := hout.cellAt k (by omega)
          rw [List.append_assoc, List.getElem?_append_right (by rw [HU.out]; exact Nat.le_refl _), HU.out, Nat.sub_self, List.singleton_append, List.getElem?_cons_zero] at hoc
          go_wp2_with (fail)
          refine region_data 10 38 _ (by kernel_rfl) new_iv (by kernel_rfl) ?_
          refine data_op (.slice (some ⟨w.heap.size, 0, none⟩) n n) rfl (RQ_pure (fun w => by simp [go_sem])) ?_
          simp only [Act.put, List.setIfInBounds_toArray, List.set_cons_succ, List.set_cons_zero]
          refine data_op (.int .i64 (k : Int)) rfl (RQ_pure (fun w => by simp [go_sem])) ?_
          simp only [Act.put, List.setIfInBounds_toArray, List.set_cons_succ, List.set_cons_zero]
          refine data_op (.pointer (some ⟨w.heap.size, k, none⟩)) rfl (RQ_pure (fun w => by simp [go_sem, hlk])) ?_
          simp only [Act.put, List.setIfInBounds_toArray, List.set_cons_succ, List.set_cons_zero]
          refine data_op (.slice (some ⟨wo.heap.size, 0, none⟩) n n) rfl (RQ_load rfl rfl (load_sl (fun w h => by simp [go_sem, h]) hol.2 hoc)) ?_
          simp only [Act.put, List.setIfInBounds_toArray, List.set_cons_succ, List.set_cons_zero]
          refine data_op (.int .i64 (c : Int)) rfl (RQ_pure (fun w => by simp [go_sem])) ?_
          simp only [Act.put, List.setIfInBounds_toArray, List.set_cons_succ, List.set_cons_zero]
          refine data_op (.func (.func N) #[] #[c0]) rfl (RQ_pure (fun w => by simp [go_sem])) ?_
          simp only [Act.put, List.setIfInBounds_toArray, List.set_cons_succ, List.set_cons_zero]
          refine data_op (.int .i64 (k : Int)) rfl (RQ_pure (fun w => by simp [go_sem])) ?_
          simp only [Act.put, List.setIfInBounds_toArray, List.set_cons_succ, List.set_cons_zero]
          refine data_op (.int .i64 (c : Int)) rfl (RQ_pure (fun w => by simp [go_sem])) ?_
          simp only [Act.put, List.setIfInBounds_toArray, List.set_cons_succ, List.set_cons_zero]
          refine data_op (.int .i64 f1) rfl (RQ_call_g HC.out (fun _ => by simp [go_sem, ef])) ?_
          simp only [Act.put, List.setIfInBounds_toArray, List.set_cons_succ, List.set_cons_zero]
          refine data_op (.pointer (some ⟨wo.heap.size, c, none⟩)) rfl (RQ_pure (fun w => by simp [go_sem, hci])) ?_
          simp only [Act.put, List.setIfInBounds_toArray, List.set_cons_succ, List.set_cons_zero]
          refine data_end ?_
          intro w5 hB5
          simp only [Act.put, List.drop_succ_cons, List.drop_zero, List.take_succ_cons, List.take_zero, alDsts, List.filterMap_cons, List.filterMap_nil, isAl, Bool.false_eq_true, if_false, if_true, finK]
          have hout5 := hout.kept (grown_below hB5) (.inr (by simp [Value.ownBlock]))
          have hin5 := hin.kept (grown_below hB5) (.inr (by simp [Value.ownBlock]))
          have hB6 := below_then hB4 hB5
          have hK5 : Keep wo w5 w.heap.size := HK.out.then (Keep.of hB5)
          obtain ⟨hl5, _⟩ := id hin5
          rw [List.length_append, HL.out] at hl5
          match ts, hl5 with
          | [], h => exfalso; simp at h; omega
          | t0 :: ts', h =>
          have q0 := hin5.cellAt c (by omega)
          rw [List.getElem?_append_right (by rw [HL.out]; omega), HL.out, Nat.mul_one, Nat.sub_self] at q0
          simp only [List.getElem?_cons_zero] at q0
          have z0 := hin5.frozenAt c
          clear h
          have s2 := hin5.stored c (.int .i64 f1)
          have e2 : (cs ++ t0 :: ts').set c (.int .i64 f1) = cs ++ cy [f1] ++ ts' := by
            rw [List.set_append_right _ _ (by rw [HL.out]; omega), HL.out, Nat.mul_one, Nat.sub_self]
            simp [cy]
          rw [e2] at s2
          have hout6 := hout5.kept s2.2 (.inr (by simp [Value.ownBlock]; omega))
          have HS2 := Lib.hid s2.1
          have HO6 := Lib.hid hout6
          have HK6 : Hid (Keep wo (w5.setCell ⟨wo.heap.size, c, none⟩ (.int .i64 f1)) w.heap.size) := Lib.hid (hK5.set' (Nat.le_refl _))
          have hB7 : Below w.heap.size w (w5.setCell ⟨wo.heap.size, c, none⟩ (.int .i64 f1)) := hB6.setCell (p := ⟨wo.heap.size, c, none⟩) (Nat.le_of_lt hwl) _
          clear s2 e2 hout6 hout5 hin5 hout hin hK5
          go_wp2_with (fail)
          go_roundw
          case rel =>
            refine ⟨c + 1, ts', by go_num, by omega, HO6.out, ?_, HK6, hB7⟩
            rw [HX.out, cy_app, HCS.out]
            exact HS2.out
          case measure => simp [intOf]; omega
        · obtain rfl : c = n := by omega
          go_wp2_with (fail)
          go_roundw
          case rel =>
            have hts : ts = [] := by
              have := hin.1
              rw [List.length_append, cy_len, List.length_map, List.length_take, List.length_range] at this
              exact List.length_eq_zero_iff.1 (by omega)
            rw [hts, List.append_nil, List.take_of_length_le (by simp)] at hin
            have hlastB : Pt wr (.slice (some ⟨wo.heap.size, 0, none⟩) c c) (rowOf F c k) := by
              have hl : (rowOf F c k).length = c := by simp [rowOf]
              have := Pt.own (l := rowOf F c k) (v := .slice (some ⟨wo.heap.size, 0, none⟩) c c) (B := wo.heap.size) (W := wr) (by rw [hl]; exact hin) (by rw [hl]; unfold maxLen; omega)
              exact this
            refine ⟨k + 1, us ++ [.slice (some ⟨wo.heap.size, 0, none⟩) c c], rest'', by go_num, by omega, Lib.hid (by simp [HU.out]), Lib.hid (fun j u hu => ?_), hout, HS5, hB4⟩
            by_cases hj : j < k
            · rw [List.getElem?_append_left (by rw [HU.out]; exact hj)] at hu
              exact keep_pt HSB.out HK.out (HQ.out j u hu)
            · have hju : j = k := by
                have := (List.getElem?_eq_some_iff.1 hu).1
                rw [List.length_append, HU.out, List.length_singleton] at this
                omega
              subst hju
              rw [List.getElem?_append_right (by rw [HU.out]; exact Nat.le_refl _), HU.out, Nat.sub_self] at hu
              simp only [List.getElem?_cons_zero, Option.some.injEq] at hu
              rw [← hu]
              exact hlastB
          case measure => simp [intOf]; omega
    · obtain rfl : k = n := by omega
      go_wp2_with (fail)
      go_ret
      refine ⟨_, rfl, ?_, hB⟩
      have hlen := hrow.1
      rw [List.length_append, HU.out] at hlen
      have hr : rest' = [] := List.length_eq_zero_iff.1 (by omega)
      rw [hr, List.append_nil] at hrow
      have hl : (matOf F k).length = k := by simp [matOf]
      refine Lx.own (B := w.heap.size) (t := 22) (us := us) (by rw [hl]; exact hrow) (by rw [hl]; unfold maxLen; omega) (fun j u x hu hx => ?_)
      have hjk : j < k := by
        have := (List.getElem?_eq_some_iff.1 hu).1
        rw [HU.out] at this
        exact this
      have e : x = rowOf F k j := by
        unfold matOf at hx
        rw [List.getElem?_map, List.getElem?_range hjk] at hx
        simpa using hx.symm
      rw [e]
      exact HQ.out j u hu

/-- The closure that reads the frame, column by column. -/
theorem orth1 (X : Nat) (v : Value) (us : List (List Int)) (i j : Nat) (x : Int) (u : List Int) (w : World) (hc : w.cell? ⟨X, 0, none⟩ = some v) (hv : FrB w v us) (hu : us[j]? = some u) (hx : u[i]? = some x) :
    Calls Try.prog 31 #[.int .i64 (i : Int), .int .i64 (j : Int), .pointer (some ⟨X, 0, none⟩)] w fun e w' => e = .returned (.int .i64 x) ∧ w' = w := by
  have hl := hv.1
  obtain ⟨_, p, c, rfl, h2⟩ := hv
  obtain ⟨h6, b, o, rfl, hb, hcell⟩ := h2 j u hu
  have fA := hcell i x hx
  have i1 : (j : Int) < us.length := by have := (List.getElem?_eq_some_iff.1 hu).1; omega
  have i2 : (i : Int) < 6 := by have := (List.getElem?_eq_some_iff.1 hx).1; omega
  clear h2 hcell hu hx h6
  go_enter Try.func31, Try.ntmps31
  go_wp2_with (fail)
  go_ret
  exact ⟨rfl, rfl⟩
end Go.Proofs.Ytmcdkbnpcmiojaa

namespace Go.Proofs.Ytmcdkbnpcmiojaa
open Go.ChangeShapes Go.WideShapes Go.ChangeAt Go.RowKit
set_option linter.unusedVariables false
set_option linter.unusedSimpArgs false
set_option maxRecDepth 100000

attribute [local irreducible] Calls
/-- The cells of a slice of vectors. -/
def cyl (us : List (List Int)) : List Value := us.flatMap cy
theorem cyl_len : ∀ (us : List (List Int)), (∀ u ∈ us, u.length = 6) → (cyl us).length = us.length * 6
  | [], _ => rfl
  | u :: us, h => by
    have h1 := h u (by simp)
    have h2 := cyl_len us fun x hx => h x (by simp [hx])
    unfold cyl at *
    rw [List.flatMap_cons, List.length_append, h2, cy_len, h1, List.length_cons]
    omega
theorem cyl_get : ∀ (us : List (List Int)) (k i : Nat) (u : List Int) (x : Int), (∀ u ∈ us, u.length = 6) → us[k]? = some u → u[i]? = some x → (cyl us)[k * 6 + i]? = some (.int .i64 x)
  | [], k, i, u, x, _, h, _ => by simp at h
  | v :: us, 0, i, u, x, hl, h, hx => by
    simp only [List.getElem?_cons_zero, Option.some.injEq] at h
    subst h
    have hi := (List.getElem?_eq_some_iff.1 hx).1
    unfold cyl
    rw [List.flatMap_cons, Nat.zero_mul, Nat.zero_add, List.getElem?_append_left (by rw [cy_len]; omega)]
    simp [cy, hx]
  | v :: us, k + 1, i, u, x, hl, h, hx => by
    have h6 := hl v (by simp)
    have := cyl_get us k i u x (fun y hy => hl y (by simp [hy])) (by simpa using h) hx
    unfold cyl at *
    rw [List.flatMap_cons, List.getElem?_append_right (by rw [cy_len, h6]; omega), cy_len, h6, show (k + 1) * 6 + i - 6 * 1 = k * 6 + i by omega]
    exact this
theorem cyl_snoc (us : List (List Int)) (u : List Int) : cyl (us ++ [u]) = cyl us ++ cy u := by simp [cyl]
/-- A frame of the call's own is a slice of vectors. -/
theorem FrB.own {W : World} {B : Nat} {v : Value} {us : List (List Int)} (h : W.ownsRow B 55 6 v us.length (cyl us)) (h6 : ∀ u ∈ us, u.length = 6) (hs : us.length ≤ 1000) : FrB W v us := by
  refine ⟨hs, ?_⟩
  rcases h.2 with ⟨rfl, h0⟩ | ⟨g, cap, cur, rfl, hb, hg, hrest⟩
  · have : us = [] := List.length_eq_zero_iff.1 h0
    subst this
    exact ⟨none, 0, rfl, fun k u hk => by simp at hk⟩
  · refine ⟨some ⟨g, 0, none⟩, cap, rfl, fun k u hk => ⟨h6 u (List.mem_of_getElem? hk), g, 0, rfl, (Array.getElem?_eq_some_iff.1 hg).1, fun i x hx => ?_⟩⟩
    have hkl := (List.getElem?_eq_some_iff.1 hk).1
    have hil := (List.getElem?_eq_some_iff.1 hx).1
    have hu6 := h6 u (List.mem_of_getElem? hk)
    rw [Nat.zero_add, h.cellAt (k * 6 + i) (by omega)]
    exact cyl_get us k i u x h6 hk hx
theorem red_len6 {us : List (List Int)} {w : List Int} (h : w.length = 6) (g : ∀ u ∈ us, u.length = 6) : (redV us w).length = 6 := pass_len h g 3
theorem norm_len (l : List Int) : (normV l).length = l.length := by unfold normV; rw [List.length_map]
theorem ax_len (k : Nat) : (axV k).length = 6 := by unfold axV; rw [List.length_set]; rfl
theorem axDir_len {us : List (List Int)} (g : ∀ u ∈ us, u.length = 6) : ∀ l : List Nat, (axDir us l).length = 6
  | [] => rfl
  | k :: l => by
    unfold axDir
    split
    · rw [norm_len]
      exact red_len6 (ax_len k) g
    · exact axDir_len g l
theorem dir_len {us : List (List Int)} {w : List Int} (n : Nat) (h : w.length = 6) (g : ∀ u ∈ us, u.length = 6) : (dirV us w n).length = 6 := by
  unfold dirV
  split
  · rw [norm_len]
    exact red_len6 h g
  · exact axDir_len g _
/-- The frame behind k columns. -/
def frameV (M : List (List Int)) (n : Nat) : Nat → List (List Int)
  | 0 => []
  | k + 1 => frameV M n k ++ [dirV (frameV M n k) (colV M k) n]
theorem frame_len (M : List (List Int)) (n : Nat) : ∀ k, (frameV M n k).length = k
  | 0 => rfl
  | k + 1 => by rw [frameV, List.length_append, frame_len M n k]; rfl
theorem col_len (M : List (List Int)) (j : Nat) : (colV M j).length = 6 := by simp [colV]
theorem frame_len6 (M : List (List Int)) (n : Nat) : ∀ k, ∀ u ∈ frameV M n k, u.length = 6
  | 0, u, h => by simp [frameV] at h
  | k + 1, u, h => by
    rw [frameV] at h
    rcases List.mem_append.1 h with h | h
    · exact frame_len6 M n k u h
    · rw [List.mem_singleton.1 h]
      exact dir_len n (col_len M k) (frame_len6 M n k)
/-- The result, by its elements. -/
def orthF (M : List (List Int)) (n i j : Nat) : Int := (((frameV M n n)[j]?).bind fun u => u[i]?).getD 0
end Go.Proofs.Ytmcdkbnpcmiojaa

namespace Go.Proofs.Ytmcdkbnpcmiojaa
open Go.ChangeShapes Go.WideShapes Go.ChangeAt Go.RowKit
set_option linter.unusedVariables false
set_option linter.unusedSimpArgs false
set_option maxRecDepth 100000

attribute [local irreducible] Calls
theorem info_vec : (Try.prog.info? 55).map (fun i => (i.zero, i.size, i.bytes)) = some (some (.agg #[.int .i64 0, .int .i64 0, .int .i64 0, .int .i64 0, .int .i64 0, .int .i64 0]), 6, 48) := by kernel_rfl
theorem vec_new {w : World} {Y : Nat} {d0 d1 d2 d3 d4 d5 : Int} (h : VecB w Y [d0, d1, d2, d3, d4, d5]) : ∀ j u, ([.int .i64 d0, .int .i64 d1, .int .i64 d2, .int .i64 d3, .int .i64 d4, .int .i64 d5] : List Value)[j]? = some u → w.cell? ((⟨Y, 0, none⟩ : Addr).add j) = some u := by
  intro j u hj
  match j, hj with
  | 0, hj => simp at hj; subst hj; have := h.cell (k := 0) rfl; simpa [Addr.add] using this
  | 1, hj => simp at hj; subst hj; have := h.cell (k := 1) rfl; simpa [Addr.add] using this
  | 2, hj => simp at hj; subst hj; have := h.cell (k := 2) rfl; simpa [Addr.add] using this
  | 3, hj => simp at hj; subst hj; have := h.cell (k := 3) rfl; simpa [Addr.add] using this
  | 4, hj => simp at hj; subst hj; have := h.cell (k := 4) rfl; simpa [Addr.add] using this
  | 5, hj => simp at hj; subst hj; have := h.cell (k := 5) rfl; simpa [Addr.add] using this
theorem six_one (d0 d1 d2 d3 d4 d5 : Int) : ∀ u ∈ ([.int .i64 d0, .int .i64 d1, .int .i64 d2, .int .i64 d3, .int .i64 d4, .int .i64 d5] : List Value), u.oneCell' = true := by
  intro u hu
  simp at hu
  rcases hu with rfl | rfl | rfl | rfl | rfl | rfl <;> rfl
section
variable (W : World) (n k cu c : Nat) (pu p : Option Addr) (c0 c1 c2 c3 c4 c5 d0 d1 d2 d3 d4 d5 : Int)
def phiO : Tmp → Value → World → Prop := lk [(15, fun u _ => u = .slice pu k cu), (16, fun u _ => u = .slice p n c), (17, fun u _ => u = .int .i64 (k : Int)), (18, fun u _ => u = .agg #[.int .i64 c0, .int .i64 c1, .int .i64 c2, .int .i64 c3, .int .i64 c4, .int .i64 c5]), (19, fun u _ => u = .int .i64 (n : Int)), (20, fun u _ => u = .slice pu k cu), (21, fun u _ => u = .func (.func 29) #[.slice pu k cu] #[]), (22, fun u _ => u = .agg #[.int .i64 d0, .int .i64 d1, .int .i64 d2, .int .i64 d3, .int .i64 d4, .int .i64 d5]), (23, fun u w' => ∃ Y, u = .slice (some ⟨Y, 0, none⟩) 1 1 ∧ W.heap.size ≤ Y ∧ VecB w' Y [d0, d1, d2, d3, d4, d5])]
theorem phiO_steady : ∀ t v w1 w2, Below w1.heap.size w1 w2 → phiO W n k cu c pu p c0 c1 c2 c3 c4 c5 d0 d1 d2 d3 d4 d5 t v w1 → phiO W n k cu c pu p c0 c1 c2 c3 c4 c5 d0 d1 d2 d3 d4 d5 t v w2 := lk_steady _ ⟨steady_eq _, steady_eq _, steady_eq _, steady_eq _, steady_eq _, steady_eq _, steady_eq _, steady_eq _, fun u w1 w2 hb ⟨X, h1, h2, h3⟩ => ⟨X, h1, h2, h3.grow hb⟩, trivial⟩
end
set_option maxHeartbeats 8000000 in
theorem orth_ok (v : Value) (M : List (List Int)) (n : Nat) (w : World) (hv : Lx Pt w v M) (hM : M.length = n) (h1 : 1 ≤ n) (h6 : n ≤ 6) (hr : ∀ r ∈ M, r.length = n)
    (hu : ∀ k, k ≤ n → ∀ u ∈ frameV M n k, ∀ a ∈ u, -131072 ≤ a ∧ a ≤ 131072) (hok : ∀ k, k < n → RedOk (frameV M n k) (colV M k) ∧ ∀ j, j < n → RedOk (frameV M n k) (axV j)) :
    Calls Try.prog 7 #[v] w fun e w' => ∃ u, e = .returned u ∧ Lx Pt w' u (matOf (orthF M n) n) ∧ Below w.heap.size w w' := by
  obtain ⟨p, c, rfl⟩ := hv.shape hM
  have hsq : sqB M = true := by
    unfold sqB
    rw [hM, Bool.and_eq_true, Bool.and_eq_true]
    exact ⟨List.all_eq_true.2 fun r h => by simp [hr r h], by simp [h1], by simp [h6]⟩
  have hs := nx_square (.slice p n c) M w hv
  rw [hsq] at hs
  have HS := Lib.hid hs
  have HV := Lib.hid hv
  have HM := Lib.hid hM
  have HR := Lib.hid hr
  have HU := Lib.hid hu
  have HOK := Lib.hid hok
  obtain ⟨i0, hi, hz0, hz1, hz2⟩ := info_parts info_vec
  clear hv hM hr hu hok hsq hs
  go_enter Try.func7, Try.ntmps7
  go_wp2_with (fail)
  refine HS.out.mono ?_
  rintro e w1 ⟨rfl, hB1⟩
  go_wp2_with (fail)
  have hX : w.heap.size ≤ w1.heap.size := hB1.size
  go_loopw [12] (fun i wr => ∃ (k : Nat) (u : Value), i = .int .i64 k ∧ k ≤ n ∧ Hid (wr.cell? ⟨w1.heap.size, 0, none⟩ = some u) ∧ Hid (wr.frozen? ⟨w1.heap.size, 0, none⟩ = false) ∧ w1.heap.size + 1 ≤ wr.heap.size ∧ Hid (wr.ownsRow (w1.heap.size + 1) 55 6 u k (cyl (frameV M n k))) ∧ Below w.heap.size w wr) (fun i _ => n - (intOf i).toNat)
  case atStart =>
    exact ⟨0, .slice none 0 0, rfl, Nat.zero_le _, Lib.hid (by simp [go_sem]), Lib.hid (by simp [go_sem]), by simp, Lib.hid ⟨rfl, .inl ⟨rfl, rfl⟩⟩, hB1.alloc hX _⟩
  case round =>
    obtain ⟨k, u, rfl, hk, HX, HF, hsz, HO, hB⟩ := hrel
    have hfr : FrB wr u (frameV M n k) := FrB.own (by rw [frame_len]; exact HO.out) (frame_len6 M n k) (by rw [frame_len]; omega)
    by_cases hlt : k < n
    · have i1 : (k : Int) < n := by omega
      obtain ⟨pu, cu, rfl⟩ : ∃ pu cu, u = .slice pu k cu := by
        obtain ⟨_, a, b, e, _⟩ := hfr
        rw [frame_len] at e
        exact ⟨a, b, e⟩
      have hlX : w1.heap.size < wr.heap.size := hsz
      have fX := fun g : Grown wr => (g.cell (o := 0) hlX).trans HX.out
      obtain ⟨c0, c1, c2, c3, c4, c5, hc⟩ := six (col_len M k)
      have hd6 : (dirV (frameV M n k) (colV M k) n).length = 6 := dir_len n (col_len M k) (frame_len6 M n k)
      obtain ⟨d0, d1, d2, d3, d4, d5, hd⟩ := six hd6
      have HCC : Hid (∀ g : Grown wr, Calls Try.prog 28 #[.slice p n c, .int .i64 (k : Int)] g.w fun e w' => e = .returned (.agg #[.int .i64 c0, .int .i64 c1, .int .i64 c2, .int .i64 c3, .int .i64 c4, .int .i64 c5]) ∧ Below g.w.heap.size g.w w') := Lib.hid (fun g => by
        have := column_ok (.slice p n c) M k g.w ((HV.out.grow grows_pt hB).grow grows_pt g.h) (by rw [HM.out]; exact h6) (fun r hr => by rw [HR.out r hr]; exact hlt) (by omega)
        rw [hc] at this
        exact this)
      have HCD : Hid (∀ g : Grown wr, Calls Try.prog 27 #[.agg #[.int .i64 c0, .int .i64 c1, .int .i64 c2, .int .i64 c3, .int .i64 c4, .int .i64 c5], .int .i64 (n : Int), .func (.func 29) #[.slice pu k cu] #[]] g.w fun e w' => e = .returned (.agg #[.int .i64 d0, .int .i64 d1, .int .i64 d2, .int .i64 d3, .int .i64 d4, .int .i64 d5]) ∧ Below g.w.heap.size g.w w') := Lib.hid (fun g => by
        have := direction_ok (.slice pu k cu) (frameV M n k) (colV M k) n g.w (hfr.grow g.h) (col_len M k) h6 (HU.out k hk) (HOK.out k hlt).1 (HOK.out k hlt).2
        rw [hd, hc] at this
        exact this)
      have HSN : Hid (cyl (frameV M n (k + 1)) = cyl (frameV M n k) ++ [.int .i64 d0, .int .i64 d1, .int .i64 d2, .int .i64 d3, .int .i64 d4, .int .i64 d5]) := Lib.hid (by rw [frameV, cyl_snoc, hd]; rfl)
      clear hc hd hd6 hfr
      go_wp2_with (fail)
      refine region_pred_n 9 (phiO wr n k cu c pu p c0 c1 c2 c3 c4 c5 d0 d1 d2 d3 d4 d5) (by kernel_rfl) (by kernel_rfl) (phiO_steady wr n k cu c pu p c0 c1 c2 c3 c4 c5 d0 d1 d2 d3 d4 d5) ?_ ?_
      · refine ⟨?_, ?_, ?_, ?_, ?_, ?_, ?_, ?_, ?_, trivial⟩
        · refine ob_plain [4] rfl rfl fun aa gg h => ?_
          have r0 := seen_out (v := .pointer (some ⟨w1.heap.size, 0, none⟩)) rfl rfl h.1
          have e0 := getD_of r0
          exact upon_value (v := .slice pu k cu) (by simp [go_sem, e0, r0, fX gg]) (Below.refl _ _) rfl
        · refine ob_plain [0] rfl rfl fun aa gg h => ?_
          have r0 := seen_out (v := .slice p n c) rfl rfl h.1
          have e0 := getD_of r0
          exact upon_value (v := .slice p n c) (by simp [go_sem, e0, r0]) (Below.refl _ _) rfl
        · refine ob_plain [5] rfl rfl fun aa gg h => ?_
          have r0 := seen_out (v := .int .i64 (k : Int)) rfl rfl h.1
          have e0 := getD_of r0
          exact upon_value (v := .int .i64 (k : Int)) (by simp [go_sem, e0, r0]) (Below.refl _ _) rfl
        · refine ob_plain [16, 17] rfl rfl fun aa gg h => ?_
          obtain ⟨_, r0, rfl⟩ := seen_in rfl h.1
          have e0 := getD_of r0
          obtain ⟨_, r1, rfl⟩ := seen_in rfl h.2.1
          have e1 := getD_of r1
          exact upon_enter (f := 28) (args := #[.slice p n c, .int .i64 (k : Int)]) (by simp [go_sem, e0, r0, e1, r1]) rfl ((HCC.out gg).mono fun e w' ⟨h, hB⟩ => ⟨_, h, hB, rfl⟩)
        · refine ob_plain [3] rfl rfl fun aa gg h => ?_
          have r0 := seen_out (v := .int .i64 (n : Int)) rfl rfl h.1
          have e0 := getD_of r0
          exact upon_value (v := .int .i64 (n : Int)) (by simp [go_sem, e0, r0]) (Below.refl _ _) rfl
        · refine ob_plain [4] rfl rfl fun aa gg h => ?_
          have r0 := seen_out (v := .pointer (some ⟨w1.heap.size, 0, none⟩)) rfl rfl h.1
          have e0 := getD_of r0
          exact upon_value (v := .slice pu k cu) (by simp [go_sem, e0, r0, fX gg]) (Below.refl _ _) rfl
        · refine ob_plain [20] rfl rfl fun aa gg h => ?_
          obtain ⟨_, r0, rfl⟩ := seen_in rfl h.1
          have e0 := getD_of r0
          exact upon_value (v := .func (.func 29) #[.slice pu k cu] #[]) (by simp [go_sem, Instr.makeFunc, e0, r0]) (Below.refl _ _) rfl
        · refine ob_plain [18, 19, 21] rfl rfl fun aa gg h => ?_
          obtain ⟨_, r0, rfl⟩ := seen_in rfl h.1
          have e0 := getD_of r0
          obtain ⟨_, r1, rfl⟩ := seen_in rfl h.2.1
          have e1 := getD_of r1
          obtain ⟨_, r2, rfl⟩ := seen_in rfl h.2.2.1
          have e2 := getD_of r2
          exact upon_enter (f := 27) (args := #[.agg #[.int .i64 c0, .int .i64 c1, .int .i64 c2, .int .i64 c3, .int .i64 c4, .int .i64 c5], .int .i64 (n : Int), .func (.func 29) #[.slice pu k cu] #[]]) (by simp [go_sem, e0, r0, e1, r1, e2, r2]) rfl ((HCD.out gg).mono fun e w' ⟨h, hB⟩ => ⟨_, h, hB, rfl⟩)
        · refine ob_plain [22] rfl rfl fun aa gg h => ?_
          obtain ⟨_, r0, rfl⟩ := seen_in rfl h.1
          have e0 := getD_of r0
          exact upon_value (v := .slice (some ⟨gg.w.heap.size, 0, none⟩) 1 1) (w1 := gg.w.alloc (.cells (cy [d0, d1, d2, d3, d4, d5]).toArray 55)) (by simp [go_sem, e0, r0, cy]) ((Below.refl _ _).alloc (Nat.le_refl _) _) ⟨_, rfl, gg.h.size, World.alloc_heap_new _ _⟩
      rintro w5 hB5 _ rfl _ rfl _ rfl _ rfl _ rfl _ rfl _ rfl _ rfl _ ⟨Y, rfl, hY, hVY⟩
      simp only [Act.put, List.setIfInBounds_toArray, List.set_cons_succ, List.set_cons_zero]
      have hX5 := fX ⟨w5, hB5⟩
      have hF5 : w5.frozen? ⟨w1.heap.size, 0, none⟩ = false := (Grown.frozen ⟨w5, hB5⟩ (o := 0) hlX).trans HF.out
      have hb5 := hB5.size
      have hown5 := HO.out.kept (grown_below hB5) (by cases pu with | none => exact .inl rfl | some a => exact .inr (by simp [Value.ownBlock]))
      have hB8 : Below w.heap.size w w5 := hB.trans (hB5.mono hB.size)
      have hXo := fun q hq => (hown5.lt q hq).1
      simp only [finP, List.drop_succ_cons, List.drop_zero]
      refine wpList_append_own _ rfl (.tmp 15) (.tmp 23) 53 rfl (w1.heap.size + 1) 55 i0 (.agg #[.int .i64 0, .int .i64 0, .int .i64 0, .int .i64 0, .int .i64 0, .int .i64 0]) 6 48 Try.underlying53 hi hz0 hz1 hz2 rfl (by decide) (.slice pu k cu) k _ rfl hown5 ⟨Y, 0, none⟩ 1 1 [.int .i64 d0, .int .i64 d1, .int .i64 d2, .int .i64 d3, .int .i64 d4, .int .i64 d5] rfl rfl (vec_new hVY) (six_one _ _ _ _ _ _) (by unfold maxLen; omega) (by omega) (by omega) ?_
      intro v' w6 hown' hgrow _
      obtain ⟨g', cap', rfl⟩ := ownsRow_succ hown'
      have hB9 : Below w.heap.size w w6 := Below.grown hB8 hgrow hB8.size (fun q hq => by have := hXo q hq; omega)
      have hbX : w6.heap[w1.heap.size]? = w5.heap[w1.heap.size]? := hgrow.block _ (by omega) (fun e => by have := hXo _ e.symm; omega)
      have hX6 : w6.cell? ⟨w1.heap.size, 0, none⟩ = some (.slice pu k cu) := by
        have h : w5.cell? ⟨w1.heap.size, 0, none⟩ = some (.slice pu k cu) := hX5
        simp only [World.cell?, hbX] at h ⊢
        exact h
      have hF6 : w6.frozen? ⟨w1.heap.size, 0, none⟩ = false := by
        simp only [World.frozen?, hbX] at hF5 ⊢
        exact hF5
      have hgX := (hown'.lt g' rfl).1
      have hs6 : w5.heap.size ≤ w6.heap.size := hgrow.size
      have hown7 := hown'.kept (grownBy_setCell'' w6 w1.heap.size 0 (.slice (some ⟨g', 0, none⟩) (k + 1) cap')) (.inr (by simp [Value.ownBlock]; omega))
      have hX7 := World.cell?_setCell_same w6 ⟨w1.heap.size, 0, none⟩ (.slice (some ⟨g', 0, none⟩) (k + 1) cap') hX6
      have hF7 : (w6.setCell ⟨w1.heap.size, 0, none⟩ (.slice (some ⟨g', 0, none⟩) (k + 1) cap')).frozen? ⟨w1.heap.size, 0, none⟩ = false := by rw [World.frozen?_setCell]; exact hF6
      have hB10 := hB9.setCell (p := ⟨w1.heap.size, 0, none⟩) hX (.slice (some ⟨g', 0, none⟩) (k + 1) cap')
      rw [← HSN.out] at hown7
      have HX7 := Lib.hid hX7
      have HF7 := Lib.hid hF7
      have HO7 := Lib.hid hown7
      clear hX7 hF7 hown7 hown' hgrow hX5 hF5 hown5 hXo fX hbX
      simp only [Act.put, List.setIfInBounds_toArray, List.set_cons_succ, List.set_cons_zero]
      go_wp2_with (fail)
      go_roundw
      case rel => exact ⟨k + 1, _, by go_num, by omega, HX7, HF7, by rw [size_set]; omega, HO7, hB10⟩
      case measure => simp [intOf]; omega
    · obtain rfl : k = n := by omega
      have hx := HX.out
      have hb := build1n 31 (.pointer (some ⟨w1.heap.size, 0, none⟩)) k (orthF M k) wr (by omega) (fun args w => by simp [go_sem]) (fun i j g hi hj => by
        obtain ⟨u', hu'⟩ : ∃ u', (frameV M k k)[j]? = some u' := ⟨_, List.getElem?_eq_getElem (by rw [frame_len]; exact hj)⟩
        have hu6 := frame_len6 M k k u' (List.mem_of_getElem? hu')
        obtain ⟨x, hx'⟩ : ∃ x, u'[i]? = some x := ⟨_, List.getElem?_eq_getElem (by rw [hu6]; omega)⟩
        have e : orthF M k i j = x := by simp [orthF, hu', hx']
        rw [e]
        exact (orth1 w1.heap.size u (frameV M k k) i j x u' g.w ((g.cell (o := 0) hsz).trans hx) (hfr.grow g.h) hu' hx').mono fun e w' h => ⟨h.1, by rw [h.2]; exact Below.refl _ _⟩)
      have HBD := Lib.hid hb
      clear hb hx hfr
      go_wp2_with (fail)
      refine HBD.out.mono ?_
      rintro e w2 ⟨v2, rfl, hv2, hB2⟩
      have HV2 := Lib.hid hv2
      clear hv2
      go_wp2_with (fail)
      go_ret
      exact ⟨v2, rfl, HV2.out, hB.trans (hB2.mono hB.size)⟩
end Go.Proofs.Ytmcdkbnpcmiojaa
