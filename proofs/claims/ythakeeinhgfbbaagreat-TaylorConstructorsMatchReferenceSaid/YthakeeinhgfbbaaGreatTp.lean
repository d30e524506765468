/-
  Package poly: degree, plus; the reference's Deg and Order.
-/
import Derived.Test.YthakeeinhgfbbaaGreatTm
import Derived.Test.YthakeeinhgfbbaaGreatIw1
import Derived.Test.YthakeeinhgfbbaaGreatFix
namespace Go.Proofs.YthakeeinhgfbbaaGreat
open Go.ChangeShapes Go.WideShapes Go.ChangeAt Go.RowKit
set_option linter.unusedVariables false
set_option linter.unusedSimpArgs false
set_option maxRecDepth 100000

attribute [local irreducible] Calls
theorem wrap_i64 (n : Int) (h1 : -9223372036854775808 ≤ n) (h2 : n ≤ 9223372036854775807) : IntKind.i64.wrap n = n := by
  unfold IntKind.wrap
  simp [IntKind.signed, IntKind.bits]
  omega
theorem wrap_u8 (n : Int) (h1 : 0 ≤ n) : IntKind.u8.wrap n = n % 256 := by
  unfold IntKind.wrap
  simp [IntKind.signed, IntKind.bits]
theorem idx_e {a0 a1 a2 a3 a4 a5 x : Int} {k : Nat} (hx : ([a0, a1, a2, a3, a4, a5] : List Int)[k]? = some x) (W : World) : (Instr.index 61 (.agg #[.int .u8 a0, .int .u8 a1, .int .u8 a2, .int .u8 a3, .int .u8 a4, .int .u8 a5]) (.int .i64 (k : Int))).run Tryz.prog W = .ok (.int .u8 x) W := by
  have hk : k < 6 := by have := (List.getElem?_eq_some_iff.1 hx).1; simpa using this
  match k, hk, hx with
  | 0, _, hx => cases hx; first | rfl | (simp [go_sem]; rfl)
  | 1, _, hx => cases hx; first | rfl | (simp [go_sem]; rfl)
  | 2, _, hx => cases hx; first | rfl | (simp [go_sem]; rfl)
  | 3, _, hx => cases hx; first | rfl | (simp [go_sem]; rfl)
  | 4, _, hx => cases hx; first | rfl | (simp [go_sem]; rfl)
  | 5, _, hx => cases hx; first | rfl | (simp [go_sem]; rfl)
theorem sum_bdE {l : List Int} (h : ∀ x ∈ l, 0 ≤ x ∧ x ≤ 255) : 0 ≤ l.sum ∧ l.sum ≤ 255 * l.length := by
  induction l with
  | nil => simp
  | cons a l ih =>
    have h1 := h a (by simp)
    have h2 := ih fun b hb => h b (by simp [hb])
    have e : 255 * ((a :: l).length : Int) = 255 * l.length + 255 := by rw [List.length_cons]; push_cast; rw [Int.mul_add, Int.mul_one]
    rw [List.sum_cons]
    omega
theorem sum_at {l : List Int} {j : Nat} {z : Int} (h : l[j]? = some z) : (l.take (j + 1)).sum = (l.take j).sum + z := by
  rw [List.take_add_one, h]
  simp
set_option maxHeartbeats 4000000 in
theorem degree_ok (e : List Int) (w : World) (h : EV e) :
    Calls Tryz.prog 91 #[valE e] w fun r w' => r = .returned (.int .i64 (degE e)) ∧ Below w.heap.size w w' := by
  obtain ⟨a0, a1, a2, a3, a4, a5, he⟩ := six_of h
  have hb := h.2
  have hs : ∀ k, 0 ≤ (e.take k).sum ∧ (e.take k).sum ≤ 1530 := fun k => by
    have := sum_bdE (l := e.take k) fun x hx => hb x (List.mem_of_mem_take hx)
    have h2 : (e.take k).length ≤ 6 := by rw [List.length_take, h.1]; omega
    omega
  rw [show valE e = .agg #[.int .u8 a0, .int .u8 a1, .int .u8 a2, .int .u8 a3, .int .u8 a4, .int .u8 a5] by rw [he]; rfl]
  have HE := Lib.hid he
  have HB := Lib.hid hb
  have HS := Lib.hid hs
  have HL := Lib.hid h.1
  clear he hb hs h
  go_enter Tryz.func91, Tryz.ntmps91
  go_wp2_with (fail)
  go_loopw [3, 7] (fun s i wr => ∃ k : Nat, i = .int .i64 k ∧ k ≤ 6 ∧ s = .int .i64 (e.take k).sum ∧ Below w.heap.size w wr) (fun _ i _ => 6 - (intOf i).toNat)
  case atStart => exact ⟨0, rfl, Nat.zero_le _, by simp, (Below.refl _ _).alloc (Nat.le_refl _) _⟩
  case round =>
    obtain ⟨k, rfl, hk, rfl, hB⟩ := hrel
    by_cases hlt : k < 6
    · have ik : (k : Int) < 6 := by omega
      obtain ⟨x, hx⟩ : ∃ x, e[k]? = some x := ⟨_, List.getElem?_eq_getElem (by rw [HL.out]; exact hlt)⟩
      have hxb := HB.out x (List.mem_of_getElem? hx)
      have hs := HS.out k
      have hn := sum_at hx
      rw [HE.out] at hx
      have hix := idx_e hx wr
      have HN := Lib.hid hn
      have W1 := wrap_i64 x (by omega) (by omega)
      clear hn hx
      generalize (e.take k).sum = S at *
      have W2 := wrap_i64 (S + x) (by omega) (by omega)
      go_wp2_with (fail)
      go_roundw
      case rel => exact ⟨k + 1, by go_num, by omega, by rw [HN.out], hB⟩
      case measure => simp [intOf]; omega
    · obtain rfl : k = 6 := by omega
      have hd : (e.take 6).sum = degE e := by unfold degE; rw [List.take_of_length_le (by rw [HL.out]; exact Nat.le_refl _)]
      rw [hd]
      clear hd
      rw [show ((6 : Nat) : Int) = 6 from rfl]
      go_wp2_with (fail)
      go_ret
      exact ⟨rfl, hB⟩
/-- Six exponents in a block. -/
def ExB (W : World) (b : Nat) (e : List Int) : Prop := ∀ (g : Grown W) (k : Nat) (x : Int), e[k]? = some x → g.w.cell? ⟨b, k, none⟩ = some (.int .u8 x)
theorem ExB.new (w : World) (a0 a1 a2 a3 a4 a5 : Int) {t : TypeId} : ExB (w.alloc (.cells #[.int .u8 a0, .int .u8 a1, .int .u8 a2, .int .u8 a3, .int .u8 a4, .int .u8 a5] t)) w.heap.size [a0, a1, a2, a3, a4, a5] := fun g k x hx => by
  have hk : k < 6 := by have := (List.getElem?_eq_some_iff.1 hx).1; simpa using this
  refine (g.cell (by simp)).trans ?_
  match k, hk, hx with
  | 0, _, hx => cases hx; simp [go_sem]
  | 1, _, hx => cases hx; simp [go_sem]
  | 2, _, hx => cases hx; simp [go_sem]
  | 3, _, hx => cases hx; simp [go_sem]
  | 4, _, hx => cases hx; simp [go_sem]
  | 5, _, hx => cases hx; simp [go_sem]
set_option maxHeartbeats 4000000 in
theorem r5deg (e : List Int) (w : World) (h : EV e) :
    Calls Tryz.prog 89 #[valE e] w fun r w' => r = .returned (.int .i64 (degE e)) ∧ Below w.heap.size w w' := by
  obtain ⟨a0, a1, a2, a3, a4, a5, he⟩ := six_of h
  have hb := h.2
  have hs : ∀ k, 0 ≤ (e.take k).sum ∧ (e.take k).sum ≤ 1530 := fun k => by
    have := sum_bdE (l := e.take k) fun x hx => hb x (List.mem_of_mem_take hx)
    have h2 : (e.take k).length ≤ 6 := by rw [List.length_take, h.1]; omega
    omega
  rw [show valE e = .agg #[.int .u8 a0, .int .u8 a1, .int .u8 a2, .int .u8 a3, .int .u8 a4, .int .u8 a5] by rw [he]; rfl]
  have HE := Lib.hid he
  have HB := Lib.hid hb
  have HS := Lib.hid hs
  have HL := Lib.hid h.1
  have HX : Hid (ExB (w.alloc (.cells #[.int .u8 a0, .int .u8 a1, .int .u8 a2, .int .u8 a3, .int .u8 a4, .int .u8 a5] 61)) w.heap.size e) := Lib.hid (by rw [he]; exact ExB.new w _ _ _ _ _ _)
  have hba : Below w.heap.size w (w.alloc (.cells #[.int .u8 a0, .int .u8 a1, .int .u8 a2, .int .u8 a3, .int .u8 a4, .int .u8 a5] 61)) := (Below.refl _ _).alloc (Nat.le_refl _) _
  clear he hb hs h
  go_enter Tryz.func89, Tryz.ntmps89
  go_wp2_with (fail)
  obtain ⟨W1, hW1⟩ : ∃ W, w.alloc (.cells #[.int .u8 a0, .int .u8 a1, .int .u8 a2, .int .u8 a3, .int .u8 a4, .int .u8 a5] 61) = W := ⟨_, rfl⟩
  rw [hW1] at HX hba
  rw [hW1]
  clear hW1
  go_loopw [3, 4] (fun s i wr => ∃ k : Nat, i = .int .i64 k ∧ k ≤ 6 ∧ s = .int .i64 (e.take k).sum ∧ ∃ g : Grown W1, wr = g.w) (fun _ i _ => 6 - (intOf i).toNat)
  case atStart => exact ⟨0, rfl, Nat.zero_le _, by simp, ⟨W1, Below.refl _ _⟩, rfl⟩
  case round =>
    obtain ⟨k, rfl, hk, rfl, g0, rfl⟩ := hrel
    by_cases hlt : k < 6
    · have ik : (k : Int) < 6 := by omega
      obtain ⟨x, hx⟩ : ∃ x, e[k]? = some x := ⟨_, List.getElem?_eq_getElem (by rw [HL.out]; exact hlt)⟩
      have hxb := HB.out x (List.mem_of_getElem? hx)
      have hs := HS.out k
      have hn := sum_at hx
      have hc := HX.out g0 k x hx
      have HN := Lib.hid hn
      have Wa := wrap_i64 x (by omega) (by omega)
      clear hn hx
      generalize (e.take k).sum = S at *
      have Wb := wrap_i64 (S + x) (by omega) (by omega)
      go_wp2_with (fail)
      go_roundw
      case rel => exact ⟨k + 1, by go_num, by omega, by rw [HN.out], g0, rfl⟩
      case measure => simp [intOf]; omega
    · obtain rfl : k = 6 := by omega
      have hd : (e.take 6).sum = degE e := by unfold degE; rw [List.take_of_length_le (by rw [HL.out]; exact Nat.le_refl _)]
      rw [hd]
      clear hd
      rw [show ((6 : Nat) : Int) = 6 from rfl]
      go_wp2_with (fail)
      go_ret
      exact ⟨rfl, below_then hba g0.h⟩
theorem cmp_drop {d e : List Int} {k : Nat} {x y : Int} (hx : d[k]? = some x) (hy : e[k]? = some y) : cmpE (d.drop k) (e.drop k) = if x < y then -1 else if y < x then 1 else cmpE (d.drop (k + 1)) (e.drop (k + 1)) := by
  have h1 := (List.getElem?_eq_some_iff.1 hx)
  have h2 := (List.getElem?_eq_some_iff.1 hy)
  obtain ⟨a1, a2⟩ := h1
  obtain ⟨b1, b2⟩ := h2
  rw [List.drop_eq_getElem_cons a1, List.drop_eq_getElem_cons b1, a2, b2, cmpE]
set_option maxHeartbeats 4000000 in
theorem r5order (d e : List Int) (w : World) (hd : EV d) (he : EV e) :
    Calls Tryz.prog 95 #[valE d, valE e] w fun r w' => r = .returned (.int .i64 (cmpE d e)) ∧ Below w.heap.size w w' := by
  obtain ⟨a0, a1, a2, a3, a4, a5, hd'⟩ := six_of hd
  obtain ⟨b0, b1, b2, b3, b4, b5, he'⟩ := six_of he
  rw [show valE d = .agg #[.int .u8 a0, .int .u8 a1, .int .u8 a2, .int .u8 a3, .int .u8 a4, .int .u8 a5] by rw [hd']; rfl]
  rw [show valE e = .agg #[.int .u8 b0, .int .u8 b1, .int .u8 b2, .int .u8 b3, .int .u8 b4, .int .u8 b5] by rw [he']; rfl]
  have hba : Below w.heap.size w (w.alloc (.cells #[.int .u8 a0, .int .u8 a1, .int .u8 a2, .int .u8 a3, .int .u8 a4, .int .u8 a5] 61)) := (Below.refl _ _).alloc (Nat.le_refl _) _
  have hX1 : ExB (w.alloc (.cells #[.int .u8 a0, .int .u8 a1, .int .u8 a2, .int .u8 a3, .int .u8 a4, .int .u8 a5] 61)) w.heap.size d := by rw [hd']; exact ExB.new w _ _ _ _ _ _
  have hX2 : ExB ((w.alloc (.cells #[.int .u8 a0, .int .u8 a1, .int .u8 a2, .int .u8 a3, .int .u8 a4, .int .u8 a5] 61)).alloc (.cells #[.int .u8 b0, .int .u8 b1, .int .u8 b2, .int .u8 b3, .int .u8 b4, .int .u8 b5] 61)) (w.heap.size + 1) e := by
    have := ExB.new (w.alloc (.cells #[.int .u8 a0, .int .u8 a1, .int .u8 a2, .int .u8 a3, .int .u8 a4, .int .u8 a5] 61)) b0 b1 b2 b3 b4 b5 (t := 61)
    rw [he']
    simpa using this
  have hb2 : Below (w.alloc (.cells #[.int .u8 a0, .int .u8 a1, .int .u8 a2, .int .u8 a3, .int .u8 a4, .int .u8 a5] 61)).heap.size (w.alloc (.cells #[.int .u8 a0, .int .u8 a1, .int .u8 a2, .int .u8 a3, .int .u8 a4, .int .u8 a5] 61)) ((w.alloc (.cells #[.int .u8 a0, .int .u8 a1, .int .u8 a2, .int .u8 a3, .int .u8 a4, .int .u8 a5] 61)).alloc (.cells #[.int .u8 b0, .int .u8 b1, .int .u8 b2, .int .u8 b3, .int .u8 b4, .int .u8 b5] 61)) := (Below.refl _ _).alloc (Nat.le_refl _) _
  have hbb := below_then hba hb2
  have HX1 : Hid (ExB ((w.alloc (.cells #[.int .u8 a0, .int .u8 a1, .int .u8 a2, .int .u8 a3, .int .u8 a4, .int .u8 a5] 61)).alloc (.cells #[.int .u8 b0, .int .u8 b1, .int .u8 b2, .int .u8 b3, .int .u8 b4, .int .u8 b5] 61)) w.heap.size d) := Lib.hid (fun g k x hx => hX1 ⟨g.w, below_then hb2 g.h⟩ k x hx)
  have HX2 := Lib.hid hX2
  have HD := Lib.hid hd.1
  have HE := Lib.hid he.1
  have HDB := Lib.hid hd.2
  have HEB := Lib.hid he.2
  clear hd' he' hd he hX1 hX2 hba hb2
  go_enter Tryz.func95, Tryz.ntmps95
  go_wp2_with (fail)
  obtain ⟨W1, hW1⟩ : ∃ W, (w.alloc (.cells #[.int .u8 a0, .int .u8 a1, .int .u8 a2, .int .u8 a3, .int .u8 a4, .int .u8 a5] 61)).alloc (.cells #[.int .u8 b0, .int .u8 b1, .int .u8 b2, .int .u8 b3, .int .u8 b4, .int .u8 b5] 61) = W := ⟨_, rfl⟩
  rw [hW1] at HX1 HX2 hbb
  rw [hW1]
  clear hW1
  go_loopw [5] (fun i wr => ∃ k : Nat, i = .int .i64 k ∧ k ≤ 6 ∧ Hid (cmpE d e = cmpE (d.drop k) (e.drop k)) ∧ ∃ g : Grown W1, wr = g.w) (fun i _ => 6 - (intOf i).toNat)
  case atStart => exact ⟨0, rfl, Nat.zero_le _, Lib.hid rfl, ⟨W1, Below.refl _ _⟩, rfl⟩
  case round =>
    obtain ⟨k, rfl, hk, HK, g0, rfl⟩ := hrel
    by_cases hlt : k < 6
    · have ik : (k : Int) < 6 := by omega
      obtain ⟨x, hx⟩ : ∃ x, d[k]? = some x := ⟨_, List.getElem?_eq_getElem (by rw [HD.out]; exact hlt)⟩
      obtain ⟨y, hy⟩ : ∃ y, e[k]? = some y := ⟨_, List.getElem?_eq_getElem (by rw [HE.out]; exact hlt)⟩
      have fx := fun gg : Grown g0.w => HX1.out ⟨gg.w, below_then g0.h gg.h⟩ k x hx
      have fy := fun gg : Grown g0.w => HX2.out ⟨gg.w, below_then g0.h gg.h⟩ k y hy
      dsimp only at fx fy
      have fx0 := fx ⟨g0.w, Below.refl _ _⟩
      have fy0 := fy ⟨g0.w, Below.refl _ _⟩
      dsimp only at fx0 fy0
      have hcd := cmp_drop hx hy
      have HC := Lib.hid hcd
      clear hcd hx hy
      by_cases h1 : x < y
      · have hr : cmpE d e = -1 := by rw [HK.out, HC.out, if_pos h1]
        have HR := Lib.hid hr
        clear hr
        go_wp2_with (fail)
        go_quiet (fail)
        go_wp2_with (fail)
        go_ret
        exact ⟨by rw [HR.out]; rfl, below_then hbb (by first | exact g0.h | exact below_drewN g0.h _)⟩
      · have h1' : y ≤ x := by omega
        by_cases h2 : y < x
        · have hr : cmpE d e = 1 := by rw [HK.out, HC.out, if_neg h1, if_pos h2]
          have HR := Lib.hid hr
          clear hr
          go_wp2_with (fail)
          go_quiet (fail)
          go_wp2_with (fail)
          go_quiet (fail)
          go_wp2_with (fail)
          go_ret
          exact ⟨by rw [HR.out]; rfl, below_then hbb (by first | exact g0.h | exact below_drewN g0.h _ | exact below_drewN (below_drewN g0.h _) _)⟩
        · have h2' : x ≤ y := by omega
          have hr : cmpE d e = cmpE (d.drop (k + 1)) (e.drop (k + 1)) := by rw [HK.out, HC.out, if_neg h1, if_neg h2]
          have HR := Lib.hid hr
          clear hr
          go_wp2_with (fail)
          go_quiet (fail)
          go_wp2_with (fail)
          go_quiet (fail)
          go_wp2_with (fail)
          go_roundw
          case rel => exact ⟨k + 1, by go_num, by omega, HR, ⟨_, by first | exact below_drewN (below_drewN g0.h _) _ | exact below_drewN g0.h _ | exact g0.h⟩, rfl⟩
          case measure => simp [intOf]; omega
    · obtain rfl : k = 6 := by omega
      have hr : cmpE d e = 0 := by
        rw [HK.out, List.drop_of_length_le (by rw [HD.out]; exact Nat.le_refl _), List.drop_of_length_le (by rw [HE.out]; exact Nat.le_refl _)]
        rfl
      rw [show ((6 : Nat) : Int) = 6 from rfl]
      have HR := Lib.hid hr
      clear hr
      go_wp2_with (fail)
      go_ret
      exact ⟨by rw [HR.out]; rfl, below_then hbb g0.h⟩
end Go.Proofs.YthakeeinhgfbbaaGreat
