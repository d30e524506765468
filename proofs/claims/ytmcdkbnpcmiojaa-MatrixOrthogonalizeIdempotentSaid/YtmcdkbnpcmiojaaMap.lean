/-
  box.mapped at its three instances.
-/
import Derived.Test.YtmcdkbnpcmiojaaHull
import Derived.Test.YtmcdkbnpcmiojaaIw1
import Derived.Laws.MakeOwn
namespace Go.Proofs.Ytmcdkbnpcmiojaa
open Go.ChangeShapes Go.WideShapes Go.ChangeAt Go.RowKit
set_option linter.unusedVariables false
set_option linter.unusedSimpArgs false
set_option maxRecDepth 100000

/-- The cells of a slice of numbers. -/
def cy : List Int → List Value := List.map (Value.int .i64)
theorem cy_app (l m : List Int) : cy (l ++ m) = cy l ++ cy m := by simp [cy]
theorem cy_len (l : List Int) : (cy l).length = l.length * 1 := by simp [cy]
theorem info_i64 : (Try.prog.info? 2).map (fun i => (i.zero, i.size, i.bytes)) = some (some (.int .i64 0), 1, 8) := by kernel_rfl
theorem Pt.own {W : World} {B : Nat} {v : Value} {l : List Int} (h : W.ownsRow B 2 1 v l.length (cy l)) (hl : l.length ≤ maxLen) : Pt W v l := by
  rcases h.2 with ⟨rfl, h0⟩ | ⟨g, cap, cur, rfl, hb, hg, hrest⟩
  · have : l = [] := List.length_eq_zero_iff.1 h0
    subst this
    exact ⟨by simp, none, 0, rfl, fun k x h => by simp at h⟩
  · refine ⟨hl, _, cap, rfl, fun k x hx => ⟨g, 0, rfl, (Array.getElem?_eq_some_iff.1 hg).1, ?_⟩⟩
    have hk := (List.getElem?_eq_some_iff.1 hx).1
    rw [Nat.zero_add, h.cellAt k (by omega)]
    simp [cy, hx]
def midI (p : Int × Int) : Int := (p.1 + p.2) / 2
def ptI (x : Int) : Int × Int := (mkLo x x, mkHi x x)
theorem VI.bd4 {p : Int × Int} (h : VB p) : -2147483648 ≤ p.1 ∧ p.1 ≤ 2147483648 ∧ -2147483648 ≤ p.2 ∧ p.2 ≤ 2147483648 := ⟨(VI.bd h).1, (VI.bd h).2.1, (VI.bd h).2.2.1, (VI.bd h).2.2.2.1⟩

set_option maxHeartbeats 2000000 in
theorem map_mid (v : Value) (l : List (Int × Int)) (w : World) (hv : Bx w v l) (hsm : l.length ≤ 1000) (hv' : ∀ p ∈ l, VB p) :
    Calls Try.prog 70 #[v, .func (.func 71) #[] #[]] w fun e W' => ∃ u, e = .returned u ∧ Pt W' u (l.map midI) ∧ Below w.heap.size w W' := by
  obtain ⟨hl, p, c, rfl, hp⟩ := hv
  clear hl
  obtain ⟨i0, hi, hz0, hz1, hz2⟩ := info_parts info_i64
  obtain ⟨W1, hW1⟩ : ∃ W1, w.alloc (.cells (madeCells (Value.cells (.int .i64 0)) (l.length * 1)) 2) = W1 := ⟨_, rfl⟩
  have hmk : (Instr.makeSlice 22 (.int .i64 (l.length : Int)) (.int .i64 (l.length : Int))).run Try.prog w = .ok (.slice (some ⟨w.heap.size, 0, none⟩) l.length l.length) W1 := by
    have := run_make (P := Try.prog) w 22 2 i0 _ Try.underlying22 hi hz0 .i64 .i64 l.length l.length (by omega) (Int.le_refl _) (by rw [hz2]; omega) (by omega)
    rw [hz1] at this
    rw [← hW1]
    simpa using this
  obtain ⟨rest, hrow0⟩ : ∃ rest, W1.ownsRow w.heap.size 2 1 (.slice (some ⟨w.heap.size, 0, none⟩) l.length l.length) l.length rest := by
    rw [← hW1]
    exact ⟨_, World.ownsRow_lit w _ l.length (Nat.le_refl _) (by unfold maxLen; omega) (size_madeCells _ _)⟩
  have hB1 : Below w.heap.size w W1 := by rw [← hW1]; exact (Below.refl _ w).alloc (Nat.le_refl _) _
  clear hW1 hi hz0 hz1 hz2
  go_enter Try.func70, Try.ntmps70
  go_wp2_with (fail)
  go_loopw [13] (fun i wr => ∃ (k : Nat) (rest : List Value), i = .int .i64 k ∧ k ≤ l.length ∧ wr.ownsRow w.heap.size 2 1 (.slice (some ⟨w.heap.size, 0, none⟩) l.length l.length) l.length (cy ((l.take k).map midI) ++ rest) ∧ Below w.heap.size w wr) (fun i _ => l.length - (intOf i).toNat)
  case atStart => exact ⟨0, rest, rfl, Nat.zero_le _, by simpa [cy] using hrow0, hB1⟩
  case round =>
    obtain ⟨k, rest', rfl, hk, hrow, hB⟩ := hrel
    by_cases hlt : k < l.length
    · obtain ⟨b, o, x, y, rfl, hx, hb, c1, c2⟩ := Bx.at (c := 0) (n := 0) hp hlt hB
      have hlk : (k : Int) < l.length := by omega
      have hX : (l.take (k + 1)).map midI = (l.take k).map midI ++ [midI (x, y)] := by
        rw [List.take_add_one, hx]
        simp
      have hlc : (cy ((l.take k).map midI)).length = k * 1 := by rw [cy_len, List.length_map, List.length_take]; omega
      have HL := Lib.hid hlc
      have HX := Lib.hid hX
      clear hX
      have hwl : w.heap.size < wr.heap.size := (hrow.lt w.heap.size rfl).2
      have hbw : b < wr.heap.size := Nat.lt_of_lt_of_le hb hB.size
      have hcap := hp k _ hx
      have HMEM := Lib.hid (List.mem_of_getElem? hx)
      clear hp hx hcap
      obtain ⟨cs, hcs⟩ : ∃ cs, cy ((l.take k).map midI) = cs := ⟨_, rfl⟩
      rw [hcs] at HL hrow hlc
      have HCS := Lib.hid hcs
      clear hcs hlc
      go_wp2_with (fail)
      refine (iv_mid x y _ (VI.bd4 (hv' _ HMEM.out))).mono ?_
      rintro e w5 ⟨rfl, hB5⟩
      have h56 : Below w.heap.size wr w5 := ((Below.refl _ _).alloc hB.size _).trans (hB5.mono (by simp; omega))
      have hrow5 := (hrow.alloc (.cells #[.int .i64 x, .int .i64 y] 38)).kept (grown_below hB5) (.inr (by simp [Value.ownBlock]))
      have hB6 := hB.trans h56
      obtain ⟨hlen5, _⟩ := id hrow5
      rw [List.length_append, HL.out] at hlen5
      match rest', hlen5 with
      | [], h => exfalso; simp at h; omega
      | r0 :: rest'', h =>
      have q0 := hrow5.cellAt k (by omega)
      rw [List.getElem?_append_right (by rw [HL.out]; omega), HL.out, Nat.mul_one, Nat.sub_self] at q0
      simp only [List.getElem?_cons_zero] at q0
      have z0 := hrow5.frozenAt k
      clear h
      have s1 := hrow5.stored k (.int .i64 (midI (x, y)))
      have e2 : (cs ++ r0 :: rest'').set k (.int .i64 (midI (x, y))) = cs ++ cy [midI (x, y)] ++ rest'' := by
        rw [List.set_append_right _ _ (by rw [HL.out]; omega), HL.out, Nat.mul_one, Nat.sub_self]
        simp [cy]
      rw [e2] at s1
      have HS2 := Lib.hid s1.1
      clear s1 e2
      go_wp2_with (fail)
      go_roundw
      case rel =>
        refine ⟨k + 1, rest'', by go_num, by omega, ?_, hB6.setCell (p := ⟨w.heap.size, k, none⟩) (Nat.le_refl _) _⟩
        rw [HX.out, cy_app, HCS.out]
        exact HS2.out
      case measure => simp [intOf]; omega
    · obtain rfl : k = l.length := by omega
      go_wp2_with (fail)
      go_ret
      refine ⟨_, rfl, ?_, hB⟩
      rw [List.take_of_length_le (Nat.le_refl _)] at hrow
      have hlen := hrow.1
      rw [List.length_append, cy_len, List.length_map] at hlen
      have hr : rest' = [] := List.length_eq_zero_iff.1 (by omega)
      rw [hr, List.append_nil] at hrow
      exact Pt.own (by simpa using hrow) (by simp; unfold maxLen; omega)

set_option maxHeartbeats 2000000 in
theorem map_point (v : Value) (l : List Int) (w : World) (hv : Pt w v l) (hsm : l.length ≤ 1000)  :
    Calls Try.prog 59 #[v, .func (.func 54) #[] #[]] w fun e W' => ∃ u, e = .returned u ∧ Bx W' u (l.map ptI) ∧ Below w.heap.size w W' := by
  obtain ⟨hl, p, c, rfl, hp⟩ := hv
  clear hl
  obtain ⟨i0, hi, hz0, hz1, hz2⟩ := info_parts info_iv
  obtain ⟨W1, hW1⟩ : ∃ W1, w.alloc (.cells (madeCells (Value.cells (.agg #[.int .i64 0, .int .i64 0])) (l.length * 2)) 38) = W1 := ⟨_, rfl⟩
  have hmk : (Instr.makeSlice 40 (.int .i64 (l.length : Int)) (.int .i64 (l.length : Int))).run Try.prog w = .ok (.slice (some ⟨w.heap.size, 0, none⟩) l.length l.length) W1 := by
    have := run_make (P := Try.prog) w 40 38 i0 _ Try.underlying40 hi hz0 .i64 .i64 l.length l.length (by omega) (Int.le_refl _) (by rw [hz2]; omega) (by omega)
    rw [hz1] at this
    rw [← hW1]
    simpa using this
  obtain ⟨rest, hrow0⟩ : ∃ rest, W1.ownsRow w.heap.size 38 2 (.slice (some ⟨w.heap.size, 0, none⟩) l.length l.length) l.length rest := by
    rw [← hW1]
    exact ⟨_, World.ownsRow_lit w _ l.length (Nat.le_refl _) (by unfold maxLen; omega) (size_madeCells _ _)⟩
  have hB1 : Below w.heap.size w W1 := by rw [← hW1]; exact (Below.refl _ w).alloc (Nat.le_refl _) _
  clear hW1 hi hz0 hz1 hz2
  go_enter Try.func59, Try.ntmps59
  go_wp2_with (fail)
  go_loopw [13] (fun i wr => ∃ (k : Nat) (rest : List Value), i = .int .i64 k ∧ k ≤ l.length ∧ wr.ownsRow w.heap.size 38 2 (.slice (some ⟨w.heap.size, 0, none⟩) l.length l.length) l.length (cz ((l.take k).map ptI) ++ rest) ∧ Below w.heap.size w wr) (fun i _ => l.length - (intOf i).toNat)
  case atStart => exact ⟨0, rest, rfl, Nat.zero_le _, by simpa [cz] using hrow0, hB1⟩
  case round =>
    obtain ⟨k, rest', rfl, hk, hrow, hB⟩ := hrel
    by_cases hlt : k < l.length
    · obtain ⟨b, o, x, rfl, hx, hb, c1⟩ := Pt.at (c := 0) (n := 0) hp hlt hB
      have hlk : (k : Int) < l.length := by omega
      have hX : (l.take (k + 1)).map ptI = (l.take k).map ptI ++ [ptI x] := by
        rw [List.take_add_one, hx]
        simp
      have hlc : (cz ((l.take k).map ptI)).length = k * 2 := by rw [cz_len, List.length_map, List.length_take]; omega
      have HL := Lib.hid hlc
      have HX := Lib.hid hX
      clear hX
      have hwl : w.heap.size < wr.heap.size := (hrow.lt w.heap.size rfl).2
      have hbw : b < wr.heap.size := Nat.lt_of_lt_of_le hb hB.size
      have hcap := hp k _ hx
      have HMEM := Lib.hid (List.mem_of_getElem? hx)
      clear hp hx hcap
      obtain ⟨cs, hcs⟩ : ∃ cs, cz ((l.take k).map ptI) = cs := ⟨_, rfl⟩
      rw [hcs] at HL hrow hlc
      have HCS := Lib.hid hcs
      clear hcs hlc
      go_wp2_with (fail)
      refine (iv_point x _).mono ?_
      rintro e w5 ⟨rfl, hB5⟩
      have h56 : Below w.heap.size wr w5 := hB5.mono hB.size
      have hrow5 := hrow.kept (grown_below hB5) (.inr (by simp [Value.ownBlock]))
      have hB6 := hB.trans h56
      obtain ⟨hlen5, _⟩ := id hrow5
      rw [List.length_append, HL.out] at hlen5
      match rest', hlen5 with
      | [], h => exfalso; simp at h; omega
      | [_], h => exfalso; simp at h; omega
      | r0 :: r1 :: rest'', h =>
      have q0 := hrow5.cellAt (k * 2) (by omega)
      have q1 := hrow5.cellAt (k * 2 + 1) (by omega)
      rw [List.getElem?_append_right (by rw [HL.out]; omega), HL.out, Nat.sub_self] at q0
      rw [List.getElem?_append_right (by rw [HL.out]; omega), HL.out, Nat.add_sub_cancel_left] at q1
      simp only [List.getElem?_cons_zero, List.getElem?_cons_succ] at q0 q1
      have z0 := hrow5.frozenAt (k * 2)
      have z1 := hrow5.frozenAt (k * 2 + 1)
      clear h
      have s1 := hrow5.stored (k * 2) (.int .i64 (ptI x).1)
      have s2 := s1.1.stored (k * 2 + 1) (.int .i64 (ptI x).2)
      have e2 : ((cs ++ r0 :: r1 :: rest'').set (k * 2) (.int .i64 (ptI x).1)).set (k * 2 + 1) (.int .i64 (ptI x).2) = cs ++ cz [ptI x] ++ rest'' := by
        rw [List.set_append_right _ _ (by rw [HL.out]; omega), List.set_append_right _ _ (by rw [HL.out]; omega), HL.out, Nat.sub_self, Nat.add_sub_cancel_left]
        simp [cz]
      rw [e2] at s2
      have HS2 := Lib.hid s2.1
      clear s1 s2 e2
      go_wp2_with (fail)
      go_roundw
      case rel =>
        refine ⟨k + 1, rest'', by go_num, by omega, ?_, (hB6.setCell (p := ⟨w.heap.size, k * 2, none⟩) (Nat.le_refl _) _).setCell (p := ⟨w.heap.size, k * 2 + 1, none⟩) (Nat.le_refl _) _⟩
        rw [HX.out, cz_app, HCS.out]
        exact HS2.out
      case measure => simp [intOf]; omega
    · obtain rfl : k = l.length := by omega
      go_wp2_with (fail)
      go_ret
      refine ⟨_, rfl, ?_, hB⟩
      rw [List.take_of_length_le (Nat.le_refl _)] at hrow
      have hlen := hrow.1
      rw [List.length_append, cz_len, List.length_map] at hlen
      have hr : rest' = [] := List.length_eq_zero_iff.1 (by omega)
      rw [hr, List.append_nil] at hrow
      exact Bx.own (by simpa using hrow) (by simp; unfold maxLen; omega)
end Go.Proofs.Ytmcdkbnpcmiojaa
