/-
  Matrices in memory; the matrix package's mapped to intervals.
  The matrix package's product and Apply.
  The matrix package's FromNumbers, Mid, square and Valid.
  The matrix package's build.
  The matrix package's Identity and Transpose.
  The matrix package's Mul.
-/
import Derived.Test.YtmcdkbnpcmiojaaMade
import Derived.Test.YtmcdkbnpcmiojaaPointIn
import Derived.Test.YtmcdkbnpcmiojaaIw9
import Derived.Test.YtmcdkbnpcmiojaaIvMath
import Derived.Test.YtmcdkbnpcmiojaaHead
import Derived.Test.YtmcdkbnpcmiojaaMap2
import Derived.Test.YtmcdkbnpcmiojaaLoop
import Derived.Test.YtmcdkbnpcmiojaaIw1
namespace Go.Proofs.Ytmcdkbnpcmiojaa
open Go.ChangeShapes Go.WideShapes Go.ChangeAt Go.RowKit
set_option linter.unusedVariables false
set_option linter.unusedSimpArgs false
set_option maxRecDepth 100000

attribute [local irreducible] Calls
/-- A slice of one-cell elements, each with its meaning. -/
def Lx {α : Type} (P : World → Value → α → Prop) (w : World) (v : Value) (l : List α) : Prop := l.length ≤ maxLen ∧ ∃ p cap, v = .slice p l.length cap ∧
  ∀ k x, l[k]? = some x → ∃ b o u, p = some ⟨b, o, none⟩ ∧ b < w.heap.size ∧ w.cell? ⟨b, o + k, none⟩ = some u ∧ P w u x
/-- A matrix of intervals, of numbers. -/
abbrev Mx := Lx (α := List (Int × Int)) Bx
abbrev Nx := Lx (α := List Int) Pt
def Grows {α : Type} (P : World → Value → α → Prop) : Prop := ∀ (w w' : World) (v : Value) (x : α), P w v x → Below w.heap.size w w' → P w' v x
theorem grows_bx : Grows (α := List (Int × Int)) Bx := fun _ _ _ _ h hb => h.grow hb
theorem grows_pt : Grows (α := List Int) Pt := fun _ _ _ _ h hb => h.grow hb
theorem Lx.grow {α : Type} {P : World → Value → α → Prop} (hP : Grows P) {w w' : World} {v : Value} {l : List α} (h : Lx P w v l) (hb : Below w.heap.size w w') : Lx P w' v l := by
  obtain ⟨hl, p, cap, rfl, h⟩ := h
  refine ⟨hl, p, cap, rfl, fun k x hx => ?_⟩
  obtain ⟨b, o, u, rfl, h1, h2, h3⟩ := h k x hx
  exact ⟨b, o, u, rfl, Nat.lt_of_lt_of_le h1 hb.size, (hb.cell (p := ⟨b, o + k, none⟩) h1).trans h2, hP _ _ _ _ h3 hb⟩
theorem Lx.cut {α : Type} {P : World → Value → α → Prop} {w : World} {v : Value} {l : List α} (h : Lx P w v l) : ∃ p c, v = .slice p l.length c := by
  obtain ⟨_, p, c, e, _⟩ := h
  exact ⟨p, c, e⟩
theorem Lx.shape {α : Type} {P : World → Value → α → Prop} {w : World} {v : Value} {l : List α} {n : Nat} (h : Lx P w v l) (hn : l.length = n) : ∃ p c, v = .slice p n c := by
  obtain ⟨_, p, c, e, _⟩ := h
  exact ⟨p, c, by rw [e, hn]⟩
theorem Lx.rd {α : Type} {P : World → Value → α → Prop} (hP : Grows P) {w : World} {p : Option Addr} {n c j : Nat} {l : List α} {x : α} (h : Lx P w (.slice p n c) l) (hx : l[j]? = some x) : ∃ b o u, p = some ⟨b, o, none⟩ ∧ b < w.heap.size ∧ ∀ g : Grown w, b < g.w.heap.size ∧ g.w.cell? ⟨b, o + j, none⟩ = some u ∧ P g.w u x := by
  obtain ⟨_, q, c', e, h⟩ := h
  obtain ⟨b, o, u, hq, h1, h2, h3⟩ := h j x hx
  simp only [Value.slice.injEq] at e
  exact ⟨b, o, u, e.1.trans hq, h1, fun g => ⟨Nat.lt_of_lt_of_le h1 g.h.size, (g.cell (b := b) h1).trans h2, hP _ _ _ _ h3 g.h⟩⟩
theorem Lx.nil {α : Type} {P : World → Value → α → Prop} {w : World} : Lx P w (.slice none 0 0) ([] : List α) := ⟨by simp, none, 0, rfl, fun k x h => by simp at h⟩
/-- An own row of values. -/
theorem Lx.own {α : Type} {P : World → Value → α → Prop} {W : World} {B : Nat} {t : TypeId} {v : Value} {l : List α} {us : List Value} (h : W.ownsRow B t 1 v l.length us) (hl : l.length ≤ maxLen) (hP : ∀ (k : Nat) (u : Value) (x : α), us[k]? = some u → l[k]? = some x → P W u x) : Lx P W v l := by
  have hlen := h.1
  refine ⟨hl, ?_⟩
  rcases id h.2 with ⟨rfl, h0⟩ | ⟨g, cap, cur, rfl, hg, hgb, hcap, _, _, _⟩
  · exact ⟨none, 0, by rw [h0], fun k x hx => by
      have := (List.getElem?_eq_some_iff.1 hx).1
      omega⟩
  · refine ⟨some ⟨g, 0, none⟩, cap, rfl, fun k x hx => ?_⟩
    have hk := (List.getElem?_eq_some_iff.1 hx).1
    obtain ⟨u, hu⟩ : ∃ u, us[k]? = some u := ⟨us[k]'(by omega), List.getElem?_eq_getElem (by omega)⟩
    have hc := h.cellAt k (by omega)
    rw [hu] at hc
    exact ⟨g, 0, u, rfl, (h.lt g rfl).2, by simpa using hc, hP k u x hu hx⟩
def IsSl (u : Value) : Prop := ∃ p n c, u = .slice p n c
def SlB (W : World) (g : Nat) : Prop := ∀ j u, W.cell? ⟨g, j, none⟩ = some u → IsSl u
theorem row_sl {W : World} {B : Nat} {t : TypeId} {g n : Nat} {xs : List Value} (h : W.ownsRow B t 1 (.slice (some ⟨g, 0, none⟩) n n) n xs) (hx : ∀ u ∈ xs, IsSl u) : SlB W g := by
  rcases h.2 with ⟨e, _⟩ | ⟨g', cap, cur, e, _, hg, _, _, hs, ht⟩
  · cases e
  · simp only [Value.slice.injEq, Option.some.injEq, Addr.mk.injEq, true_and, and_true] at e
    obtain ⟨rfl, rfl⟩ := e
    intro j u hu
    have hc : cur[j]? = some u := by simpa [World.cell?, hg] using hu
    have hm : u ∈ cur.toList := Array.mem_toList_iff.2 (Array.mem_of_getElem? hc)
    rw [List.take_of_length_le (by rw [Array.length_toList, hs]; exact Nat.le_refl _)] at ht
    rw [ht] at hm
    exact hx u hm
theorem made_sl (n : Nat) : ∀ u ∈ (madeCells (Value.cells (.slice none 0 0)) n).toList, IsSl u := by
  intro u hu
  simp [madeCells, Value.cells, Nat.mod_one] at hu
  exact ⟨none, 0, 0, hu.2.symm⟩
def Offs {α : Type} (P : World → Value → α → Prop) : Prop := ∀ (W : World) (g k : Nat) (z u : Value) (x : α), SlB W g → P W u x → P (W.setCell ⟨g, k, none⟩ z) u x
theorem size_set (W : World) (a : Addr) (z : Value) : (W.setCell a z).heap.size = W.heap.size := by simp [World.setCell]
theorem offs_bx : Offs (α := List (Int × Int)) Bx := by
  rintro W g k z u x hs ⟨hl, p, cap, rfl, h⟩
  refine ⟨hl, p, cap, rfl, fun j y hy => ?_⟩
  obtain ⟨b, o, rfl, h1, h2, h3⟩ := h j y hy
  have hb : b ≠ g := by
    rintro rfl
    obtain ⟨_, _, _, e⟩ := hs _ _ h2
    cases e
  exact ⟨b, o, rfl, by rw [size_set]; exact h1, (World.cell?_of_block (a := ⟨b, o + j * 2, none⟩) (heap_set hb)).trans h2, (World.cell?_of_block (a := ⟨b, o + j * 2 + 1, none⟩) (heap_set hb)).trans h3⟩
theorem offs_pt : Offs (α := List Int) Pt := by
  rintro W g k z u x hs ⟨hl, p, cap, rfl, h⟩
  refine ⟨hl, p, cap, rfl, fun j y hy => ?_⟩
  obtain ⟨b, o, rfl, h1, h2⟩ := h j y hy
  have hb : b ≠ g := by
    rintro rfl
    obtain ⟨_, _, _, e⟩ := hs _ _ h2
    cases e
  exact ⟨b, o, rfl, by rw [size_set]; exact h1, (World.cell?_of_block (a := ⟨b, o + j, none⟩) (heap_set hb)).trans h2⟩
theorem bx_sl {W : World} {v : Value} {l : List (Int × Int)} (h : Bx W v l) : IsSl v := by
  obtain ⟨_, p, c, rfl, _⟩ := h
  exact ⟨_, _, _, rfl⟩
theorem pt_sl {W : World} {v : Value} {l : List Int} (h : Pt W v l) : IsSl v := by
  obtain ⟨_, p, c, rfl, _⟩ := h
  exact ⟨_, _, _, rfl⟩
theorem info_row : (Try.prog.info? 40).map (fun i => (i.zero, i.size, i.bytes)) = some (some (.slice none 0 0), 1, 24) := by kernel_rfl
theorem info_nrow : (Try.prog.info? 22).map (fun i => (i.zero, i.size, i.bytes)) = some (some (.slice none 0 0), 1, 24) := by kernel_rfl
set_option maxHeartbeats 4000000 in
theorem mx_iv (N : FuncId) (c0 : Value) (v : Value) (M : List (List (Int × Int))) (F : List (Int × Int) → Int × Int) (w : World) (hv : Lx Bx w v M) (hsm : M.length ≤ 1000)
    (ef : ∀ args w, (callFunc N args).run Try.prog w = .ok (.enter N args) w) (hf : ∀ r u (g : Grown w), r ∈ M → Bx g.w u r → Calls Try.prog N #[u, c0] g.w fun e w' => e = .returned (.agg #[.int .i64 (F r).1, .int .i64 (F r).2]) ∧ Below g.w.heap.size g.w w') :
    Calls Try.prog 36 #[v, .func (.func N) #[] #[c0]] w fun e W' => ∃ u, e = .returned u ∧ Bx W' u (M.map F) ∧ Below w.heap.size w W' := by
  obtain ⟨i0, hi, hz0, hz1, hz2⟩ := info_parts info_iv
  obtain ⟨p, c, rfl⟩ := hv.cut
  have HV := Lib.hid hv
  have HF := Lib.hid hf
  clear hv hf
  obtain ⟨W1, hW1⟩ : ∃ W1, w.alloc (.cells (madeCells (Value.cells (.agg #[.int .i64 0, .int .i64 0])) (M.length * 2)) 38) = W1 := ⟨_, rfl⟩
  have hmk : (Instr.makeSlice 40 (.int .i64 (M.length : Int)) (.int .i64 (M.length : Int))).run Try.prog w = .ok (.slice (some ⟨w.heap.size, 0, none⟩) M.length M.length) W1 := by
    have := run_make (P := Try.prog) w 40 38 i0 _ Try.underlying40 hi hz0 .i64 .i64 M.length M.length (by omega) (Int.le_refl _) (by rw [hz2]; omega) (by omega)
    rw [hz1] at this
    rw [← hW1]
    simpa using this
  obtain ⟨rest, hrow0, hsl0⟩ : ∃ rest, W1.ownsRow w.heap.size 38 2 (.slice (some ⟨w.heap.size, 0, none⟩) M.length M.length) M.length rest ∧ True := by
    rw [← hW1]
    exact ⟨_, World.ownsRow_lit w _ M.length (Nat.le_refl _) (by unfold maxLen; omega) (size_madeCells _ _), trivial⟩
  have HSL := Lib.hid hsl0
  clear hsl0
  have hB1 : Below w.heap.size w W1 := by rw [← hW1]; exact (Below.refl _ w).alloc (Nat.le_refl _) _
  clear hW1 hi hz0 hz1 hz2
  go_enter Try.func36, Try.ntmps36
  go_wp2_with (fail)
  go_loopw [13] (fun i wr => ∃ (k : Nat) (rest : List Value), i = .int .i64 k ∧ k ≤ M.length ∧ wr.ownsRow w.heap.size 38 2 (.slice (some ⟨w.heap.size, 0, none⟩) M.length M.length) M.length (cz ((M.take k).map F) ++ rest) ∧ Below w.heap.size w wr) (fun i _ => M.length - (intOf i).toNat)
  case atStart => exact ⟨0, rest, rfl, Nat.zero_le _, by simpa [cz] using hrow0, hB1⟩
  case round =>
    obtain ⟨k, rest', rfl, hk, hrow, hB⟩ := hrel
    by_cases hlt : k < M.length
    · obtain ⟨r, hr⟩ : ∃ r, M[k]? = some r := ⟨M[k], List.getElem?_eq_getElem hlt⟩
      obtain ⟨b, o, u, hpp, hb, rd⟩ := HV.out.rd grows_bx hr
      subst hpp
      have hlk : (k : Int) < M.length := by omega
      obtain ⟨g0, hg0⟩ : ∃ g : Grown w, wr = g.w := ⟨⟨wr, hB⟩, rfl⟩
      subst hg0
      have fA := (rd g0).2.1
      have hP := (rd g0).2.2
      have hC := HF.out r u g0 (List.mem_of_getElem? hr) hP
      have HC := Lib.hid hC
      have HR := Lib.hid hr
      clear rd hP hr hC
      have hwl : w.heap.size < g0.w.heap.size := (hrow.lt w.heap.size rfl).2
      go_wp2_with (fail)
      refine HC.out.mono ?_
      rintro e w5 ⟨rfl, hB5⟩
      have hrow5 := hrow.kept (grown_below hB5) (.inr (by simp [Value.ownBlock]))
      have hB6 := below_then hB hB5
      have hlc : (cz ((M.take k).map F)).length = k * 2 := by rw [cz_len, List.length_map, List.length_take]; omega
      have hX : (M.take (k + 1)).map F = (M.take k).map F ++ [F r] := by
        rw [List.take_add_one, HR.out]
        simp
      have HX := Lib.hid hX
      clear hX
      obtain ⟨cs, hcs⟩ : ∃ cs, cz ((M.take k).map F) = cs := ⟨_, rfl⟩
      rw [hcs] at hrow5 hlc
      have HCS := Lib.hid hcs
      have HL := Lib.hid hlc
      clear hcs hrow hlc
      obtain ⟨f1, f2, hF⟩ : ∃ f1 f2, F r = (f1, f2) := ⟨_, _, rfl⟩
      rw [hF] at HX
      have e1 : (F r).1 = f1 := by rw [hF]
      have e2 : (F r).2 = f2 := by rw [hF]
      rw [e1, e2]
      clear e1 e2 hF HC
      obtain ⟨hlen5, _⟩ := id hrow5
      rw [List.length_append, HL.out] at hlen5
      match rest', hlen5 with
      | [], h => exfalso; simp at h; omega
      | [_], h => exfalso; simp at h; omega
      | r0 :: r1 :: rest'', h =>
      have q0 := hrow5.cellAt (k * 2) (by omega)
      have q1 := hrow5.cellAt (k * 2 + 1) (by omega)
      rw [List.getElem?_append_right (by rw [HL.out]; omega), HL.out, Nat.sub_self] at q0
      rw [List.getElem?_append_right (by rw [HL.out]; omega), HL.out, show k * 2 + 1 - k * 2 = 1 by omega] at q1
      simp only [List.getElem?_cons_zero, List.getElem?_cons_succ] at q0 q1
      have z0 := hrow5.frozenAt (k * 2)
      have z1 := hrow5.frozenAt (k * 2 + 1)
      clear h
      have s1 := hrow5.stored (k * 2) (.int .i64 f1)
      have s2 := s1.1.stored (k * 2 + 1) (.int .i64 f2)
      have e2 : ((cs ++ r0 :: r1 :: rest'').set (k * 2) (.int .i64 f1)).set (k * 2 + 1) (.int .i64 f2) = cs ++ cz [(f1, f2)] ++ rest'' := by
        rw [List.set_append_right _ _ (by rw [HL.out]; omega), HL.out, Nat.sub_self, List.set_append_right _ _ (by rw [HL.out]; omega), HL.out, show k * 2 + 1 - k * 2 = 1 by omega]
        simp [cz]
      rw [e2] at s2
      have HS2 := Lib.hid s2.1
      clear s1 s2 e2
      go_wp2_with (fail)
      go_roundw
      case rel =>
        refine ⟨k + 1, rest'', by go_num, by omega, ?_, (hB6.setCell (p := ⟨w.heap.size, k * 2, none⟩) (Nat.le_refl _) _).setCell (p := ⟨w.heap.size, k * 2 + 1, none⟩) (Nat.le_refl _) _⟩
        rw [HX.out, cz_app, HCS.out]
        exact HS2.out
      case measure => simp [intOf]; omega
    · obtain rfl : k = M.length := by omega
      go_wp2_with (fail)
      go_ret
      refine ⟨_, rfl, ?_, hB⟩
      rw [List.take_of_length_le (Nat.le_refl _)] at hrow
      have hlen := hrow.1
      rw [List.length_append, cz_len, List.length_map] at hlen
      have hr : rest' = [] := List.length_eq_zero_iff.1 (by omega)
      rw [hr, List.append_nil] at hrow
      exact Bx.own (by simpa using hrow) (by simp; unfold maxLen; omega)
set_option maxHeartbeats 4000000 in
theorem mx_row (N : FuncId) (c0 : Value) (v : Value) (M : List (List (Int × Int))) (F : List (Int × Int) → List (Int × Int)) (w : World) (hv : Lx Bx w v M) (hsm : M.length ≤ 1000)
    (ef : ∀ args w, (callFunc N args).run Try.prog w = .ok (.enter N args) w) (hf : ∀ r u (g : Grown w), r ∈ M → Bx g.w u r → Calls Try.prog N #[u, c0] g.w fun e w' => ∃ v, e = .returned v ∧ Bx w' v (F r) ∧ Below g.w.heap.size g.w w') :
    Calls Try.prog 45 #[v, .func (.func N) #[] #[c0]] w fun e W' => ∃ u, e = .returned u ∧ Lx Bx W' u (M.map F) ∧ Below w.heap.size w W' := by
  obtain ⟨i0, hi, hz0, hz1, hz2⟩ := info_parts info_row
  obtain ⟨p, c, rfl⟩ := hv.cut
  have HV := Lib.hid hv
  have HF := Lib.hid hf
  clear hv hf
  obtain ⟨W1, hW1⟩ : ∃ W1, w.alloc (.cells (madeCells (Value.cells (.slice none 0 0)) (M.length * 1)) 40) = W1 := ⟨_, rfl⟩
  have hmk : (Instr.makeSlice 34 (.int .i64 (M.length : Int)) (.int .i64 (M.length : Int))).run Try.prog w = .ok (.slice (some ⟨w.heap.size, 0, none⟩) M.length M.length) W1 := by
    have := run_make (P := Try.prog) w 34 40 i0 _ Try.underlying34 hi hz0 .i64 .i64 M.length M.length (by omega) (Int.le_refl _) (by rw [hz2]; omega) (by omega)
    rw [hz1] at this
    rw [← hW1]
    simpa using this
  obtain ⟨rest, hrow0, hsl0⟩ : ∃ rest, W1.ownsRow w.heap.size 40 1 (.slice (some ⟨w.heap.size, 0, none⟩) M.length M.length) M.length rest ∧ (∀ u ∈ rest, IsSl u) := by
    rw [← hW1]
    exact ⟨_, World.ownsRow_lit w _ M.length (Nat.le_refl _) (by unfold maxLen; omega) (size_madeCells _ _), made_sl _⟩
  have HSL := Lib.hid hsl0
  clear hsl0
  have hB1 : Below w.heap.size w W1 := by rw [← hW1]; exact (Below.refl _ w).alloc (Nat.le_refl _) _
  clear hW1 hi hz0 hz1 hz2
  go_enter Try.func45, Try.ntmps45
  go_wp2_with (fail)
  go_loopw [13] (fun i wr => ∃ (k : Nat) (us rest : List Value), i = .int .i64 k ∧ k ≤ M.length ∧ Hid (us.length = k) ∧ Hid (∀ (j : Nat) (u : Value) (x : List (Int × Int)), us[j]? = some u → ((M.take k).map F)[j]? = some x → Bx wr u x) ∧ wr.ownsRow w.heap.size 40 1 (.slice (some ⟨w.heap.size, 0, none⟩) M.length M.length) M.length (us ++ rest) ∧ Hid (∀ u ∈ us ++ rest, IsSl u) ∧ Below w.heap.size w wr) (fun i _ => M.length - (intOf i).toNat)
  case atStart => exact ⟨0, [], rest, rfl, Nat.zero_le _, Lib.hid rfl, Lib.hid (fun j u x h => by simp at h), by simpa using hrow0, Lib.hid (by simpa using HSL.out), hB1⟩
  case round =>
    obtain ⟨k, us, rest', rfl, hk, HU, HQ, hrow, HS, hB⟩ := hrel
    by_cases hlt : k < M.length
    · obtain ⟨r, hr⟩ : ∃ r, M[k]? = some r := ⟨M[k], List.getElem?_eq_getElem hlt⟩
      obtain ⟨b, o, u, hpp, hb, rd⟩ := HV.out.rd grows_bx hr
      subst hpp
      have hlk : (k : Int) < M.length := by omega
      obtain ⟨g0, hg0⟩ : ∃ g : Grown w, wr = g.w := ⟨⟨wr, hB⟩, rfl⟩
      subst hg0
      have fA := (rd g0).2.1
      have hP := (rd g0).2.2
      have hC := HF.out r u g0 (List.mem_of_getElem? hr) hP
      have HC := Lib.hid hC
      have HR := Lib.hid hr
      clear rd hP hr hC
      have hwl : w.heap.size < g0.w.heap.size := (hrow.lt w.heap.size rfl).2
      go_wp2_with (fail)
      refine HC.out.mono ?_
      rintro e w5 ⟨v5, rfl, hv5, hB5⟩
      have hrow5 := hrow.kept (grown_below hB5) (.inr (by simp [Value.ownBlock]))
      have hB6 := below_then hB hB5
      obtain ⟨p5, n5, c5, rfl⟩ := bx_sl hv5
      obtain ⟨hlen5, _⟩ := id hrow5
      rw [List.length_append, HU.out] at hlen5
      match rest', hlen5 with
      | [], h => exfalso; simp at h; omega
      | r0 :: rest'', h =>
      have q0 := hrow5.cellAt k (by omega)
      rw [List.getElem?_append_right (by rw [HU.out]; omega), HU.out, Nat.sub_self] at q0
      simp only [List.getElem?_cons_zero] at q0
      have z0 := hrow5.frozenAt k
      clear h
      have s1 := hrow5.stored k (.slice p5 n5 c5)
      have e2 : (us ++ r0 :: rest'').set k (.slice p5 n5 c5) = us ++ [.slice p5 n5 c5] ++ rest'' := by
        rw [List.set_append_right _ _ (by rw [HU.out]; omega), HU.out, Nat.sub_self]
        simp
      rw [e2] at s1
      have hsb : SlB w5 w.heap.size := row_sl hrow5 HS.out
      have hs5 : ∀ u ∈ us ++ [.slice p5 n5 c5] ++ rest'', IsSl u := by
        intro u hu
        simp only [List.append_assoc, List.mem_append, List.mem_singleton] at hu
        rcases hu with hu | rfl | hu
        · exact HS.out u (by simp [hu])
        · exact bx_sl hv5
        · exact HS.out u (by simp [hu])
      have hBs : Below w.heap.size w (w5.setCell ⟨w.heap.size, k, none⟩ (.slice p5 n5 c5)) := hB6.setCell (p := ⟨w.heap.size, k, none⟩) (Nat.le_refl _) _
      have hQ2 : ∀ (j : Nat) (u : Value) (x : List (Int × Int)), (us ++ [.slice p5 n5 c5])[j]? = some u → ((M.take (k + 1)).map F)[j]? = some x → Bx (w5.setCell ⟨w.heap.size, k, none⟩ (.slice p5 n5 c5)) u x := by
        intro j u x hu hx
        rw [List.take_add_one, HR.out, Option.toList_some, List.map_append] at hx
        by_cases hj : j < k
        · rw [List.getElem?_append_left (by rw [HU.out]; exact hj)] at hu
          rw [List.getElem?_append_left (by rw [List.length_map, List.length_take]; omega)] at hx
          exact offs_bx _ _ _ _ _ _ hsb (grows_bx _ _ _ _ (HQ.out j u x hu hx) hB5)
        · have hju : j = k := by
            have := (List.getElem?_eq_some_iff.1 hu).1
            rw [List.length_append, HU.out, List.length_singleton] at this
            omega
          subst hju
          rw [List.getElem?_append_right (by rw [HU.out]; exact Nat.le_refl _), HU.out, Nat.sub_self] at hu
          rw [List.getElem?_append_right (by rw [List.length_map, List.length_take]; omega), List.length_map, List.length_take, Nat.min_eq_left (by omega), Nat.sub_self] at hx
          simp only [List.map_cons, List.map_nil, List.getElem?_cons_zero, Option.some.injEq] at hu hx
          rw [← hu, ← hx]
          exact offs_bx _ _ _ _ _ _ hsb hv5
      have HS2 := Lib.hid s1.1
      have HQ2 := Lib.hid hQ2
      have HS5 := Lib.hid hs5
      clear s1 e2 hQ2 hrow HC hsb hs5 hv5
      go_wp2_with (fail)
      go_roundw
      case rel => exact ⟨k + 1, us ++ [.slice p5 n5 c5], rest'', by go_num, by omega, Lib.hid (by simp [HU.out]), HQ2, HS2.out, HS5, hBs⟩
      case measure => simp [intOf]; omega
    · obtain rfl : k = M.length := by omega
      go_wp2_with (fail)
      go_ret
      refine ⟨_, rfl, ?_, hB⟩
      have hlen := hrow.1
      rw [List.length_append, HU.out] at hlen
      have hr : rest' = [] := List.length_eq_zero_iff.1 (by omega)
      rw [hr, List.append_nil] at hrow
      have hQ := HQ.out
      rw [List.take_of_length_le (Nat.le_refl _)] at hQ
      exact Lx.own (by simpa using hrow) (by simp; unfold maxLen; omega) hQ
set_option maxHeartbeats 4000000 in
theorem mx_num (N : FuncId) (v : Value) (M : List (List Int)) (F : List Int → List (Int × Int)) (w : World) (hv : Lx Pt w v M) (hsm : M.length ≤ 1000)
    (ef : ∀ args w, (callFunc N args).run Try.prog w = .ok (.enter N args) w) (hf : ∀ r u (g : Grown w), r ∈ M → Pt g.w u r → Calls Try.prog N #[u] g.w fun e w' => ∃ v, e = .returned v ∧ Bx w' v (F r) ∧ Below g.w.heap.size g.w w') :
    Calls Try.prog 33 #[v, .func (.func N) #[] #[]] w fun e W' => ∃ u, e = .returned u ∧ Lx Bx W' u (M.map F) ∧ Below w.heap.size w W' := by
  obtain ⟨i0, hi, hz0, hz1, hz2⟩ := info_parts info_row
  obtain ⟨p, c, rfl⟩ := hv.cut
  have HV := Lib.hid hv
  have HF := Lib.hid hf
  clear hv hf
  obtain ⟨W1, hW1⟩ : ∃ W1, w.alloc (.cells (madeCells (Value.cells (.slice none 0 0)) (M.length * 1)) 40) = W1 := ⟨_, rfl⟩
  have hmk : (Instr.makeSlice 34 (.int .i64 (M.length : Int)) (.int .i64 (M.length : Int))).run Try.prog w = .ok (.slice (some ⟨w.heap.size, 0, none⟩) M.length M.length) W1 := by
    have := run_make (P := Try.prog) w 34 40 i0 _ Try.underlying34 hi hz0 .i64 .i64 M.length M.length (by omega) (Int.le_refl _) (by rw [hz2]; omega) (by omega)
    rw [hz1] at this
    rw [← hW1]
    simpa using this
  obtain ⟨rest, hrow0, hsl0⟩ : ∃ rest, W1.ownsRow w.heap.size 40 1 (.slice (some ⟨w.heap.size, 0, none⟩) M.length M.length) M.length rest ∧ (∀ u ∈ rest, IsSl u) := by
    rw [← hW1]
    exact ⟨_, World.ownsRow_lit w _ M.length (Nat.le_refl _) (by unfold maxLen; omega) (size_madeCells _ _), made_sl _⟩
  have HSL := Lib.hid hsl0
  clear hsl0
  have hB1 : Below w.heap.size w W1 := by rw [← hW1]; exact (Below.refl _ w).alloc (Nat.le_refl _) _
  clear hW1 hi hz0 hz1 hz2
  go_enter Try.func33, Try.ntmps33
  go_wp2_with (fail)
  go_loopw [13] (fun i wr => ∃ (k : Nat) (us rest : List Value), i = .int .i64 k ∧ k ≤ M.length ∧ Hid (us.length = k) ∧ Hid (∀ (j : Nat) (u : Value) (x : List (Int × Int)), us[j]? = some u → ((M.take k).map F)[j]? = some x → Bx wr u x) ∧ wr.ownsRow w.heap.size 40 1 (.slice (some ⟨w.heap.size, 0, none⟩) M.length M.length) M.length (us ++ rest) ∧ Hid (∀ u ∈ us ++ rest, IsSl u) ∧ Below w.heap.size w wr) (fun i _ => M.length - (intOf i).toNat)
  case atStart => exact ⟨0, [], rest, rfl, Nat.zero_le _, Lib.hid rfl, Lib.hid (fun j u x h => by simp at h), by simpa using hrow0, Lib.hid (by simpa using HSL.out), hB1⟩
  case round =>
    obtain ⟨k, us, rest', rfl, hk, HU, HQ, hrow, HS, hB⟩ := hrel
    by_cases hlt : k < M.length
    · obtain ⟨r, hr⟩ : ∃ r, M[k]? = some r := ⟨M[k], List.getElem?_eq_getElem hlt⟩
      obtain ⟨b, o, u, hpp, hb, rd⟩ := HV.out.rd grows_pt hr
      subst hpp
      have hlk : (k : Int) < M.length := by omega
      obtain ⟨g0, hg0⟩ : ∃ g : Grown w, wr = g.w := ⟨⟨wr, hB⟩, rfl⟩
      subst hg0
      have fA := (rd g0).2.1
      have hP := (rd g0).2.2
      have hC := HF.out r u g0 (List.mem_of_getElem? hr) hP
      have HC := Lib.hid hC
      have HR := Lib.hid hr
      clear rd hP hr hC
      have hwl : w.heap.size < g0.w.heap.size := (hrow.lt w.heap.size rfl).2
      go_wp2_with (fail)
      refine HC.out.mono ?_
      rintro e w5 ⟨v5, rfl, hv5, hB5⟩
      have hrow5 := hrow.kept (grown_below hB5) (.inr (by simp [Value.ownBlock]))
      have hB6 := below_then hB hB5
      obtain ⟨p5, n5, c5, rfl⟩ := bx_sl hv5
      obtain ⟨hlen5, _⟩ := id hrow5
      rw [List.length_append, HU.out] at hlen5
      match rest', hlen5 with
      | [], h => exfalso; simp at h; omega
      | r0 :: rest'', h =>
      have q0 := hrow5.cellAt k (by omega)
      rw [List.getElem?_append_right (by rw [HU.out]; omega), HU.out, Nat.sub_self] at q0
      simp only [List.getElem?_cons_zero] at q0
      have z0 := hrow5.frozenAt k
      clear h
      have s1 := hrow5.stored k (.slice p5 n5 c5)
      have e2 : (us ++ r0 :: rest'').set k (.slice p5 n5 c5) = us ++ [.slice p5 n5 c5] ++ rest'' := by
        rw [List.set_append_right _ _ (by rw [HU.out]; omega), HU.out, Nat.sub_self]
        simp
      rw [e2] at s1
      have hsb : SlB w5 w.heap.size := row_sl hrow5 HS.out
      have hs5 : ∀ u ∈ us ++ [.slice p5 n5 c5] ++ rest'', IsSl u := by
        intro u hu
        simp only [List.append_assoc, List.mem_append, List.mem_singleton] at hu
        rcases hu with hu | rfl | hu
        · exact HS.out u (by simp [hu])
        · exact bx_sl hv5
        · exact HS.out u (by simp [hu])
      have hBs : Below w.heap.size w (w5.setCell ⟨w.heap.size, k, none⟩ (.slice p5 n5 c5)) := hB6.setCell (p := ⟨w.heap.size, k, none⟩) (Nat.le_refl _) _
      have hQ2 : ∀ (j : Nat) (u : Value) (x : List (Int × Int)), (us ++ [.slice p5 n5 c5])[j]? = some u → ((M.take (k + 1)).map F)[j]? = some x → Bx (w5.setCell ⟨w.heap.size, k, none⟩ (.slice p5 n5 c5)) u x := by
        intro j u x hu hx
        rw [List.take_add_one, HR.out, Option.toList_some, List.map_append] at hx
        by_cases hj : j < k
        · rw [List.getElem?_append_left (by rw [HU.out]; exact hj)] at hu
          rw [List.getElem?_append_left (by rw [List.length_map, List.length_take]; omega)] at hx
          exact offs_bx _ _ _ _ _ _ hsb (grows_bx _ _ _ _ (HQ.out j u x hu hx) hB5)
        · have hju : j = k := by
            have := (List.getElem?_eq_some_iff.1 hu).1
            rw [List.length_append, HU.out, List.length_singleton] at this
            omega
          subst hju
          rw [List.getElem?_append_right (by rw [HU.out]; exact Nat.le_refl _), HU.out, Nat.sub_self] at hu
          rw [List.getElem?_append_right (by rw [List.length_map, List.length_take]; omega), List.length_map, List.length_take, Nat.min_eq_left (by omega), Nat.sub_self] at hx
          simp only [List.map_cons, List.map_nil, List.getElem?_cons_zero, Option.some.injEq] at hu hx
          rw [← hu, ← hx]
          exact offs_bx _ _ _ _ _ _ hsb hv5
      have HS2 := Lib.hid s1.1
      have HQ2 := Lib.hid hQ2
      have HS5 := Lib.hid hs5
      clear s1 e2 hQ2 hrow HC hsb hs5 hv5
      go_wp2_with (fail)
      go_roundw
      case rel => exact ⟨k + 1, us ++ [.slice p5 n5 c5], rest'', by go_num, by omega, Lib.hid (by simp [HU.out]), HQ2, HS2.out, HS5, hBs⟩
      case measure => simp [intOf]; omega
    · obtain rfl : k = M.length := by omega
      go_wp2_with (fail)
      go_ret
      refine ⟨_, rfl, ?_, hB⟩
      have hlen := hrow.1
      rw [List.length_append, HU.out] at hlen
      have hr : rest' = [] := List.length_eq_zero_iff.1 (by omega)
      rw [hr, List.append_nil] at hrow
      have hQ := HQ.out
      rw [List.take_of_length_le (Nat.le_refl _)] at hQ
      exact Lx.own (by simpa using hrow) (by simp; unfold maxLen; omega) hQ
set_option maxHeartbeats 4000000 in
theorem mx_mid (N : FuncId) (v : Value) (M : List (List (Int × Int))) (F : List (Int × Int) → List Int) (w : World) (hv : Lx Bx w v M) (hsm : M.length ≤ 1000)
    (ef : ∀ args w, (callFunc N args).run Try.prog w = .ok (.enter N args) w) (hf : ∀ r u (g : Grown w), r ∈ M → Bx g.w u r → Calls Try.prog N #[u] g.w fun e w' => ∃ v, e = .returned v ∧ Pt w' v (F r) ∧ Below g.w.heap.size g.w w') :
    Calls Try.prog 50 #[v, .func (.func N) #[] #[]] w fun e W' => ∃ u, e = .returned u ∧ Lx Pt W' u (M.map F) ∧ Below w.heap.size w W' := by
  obtain ⟨i0, hi, hz0, hz1, hz2⟩ := info_parts info_nrow
  obtain ⟨p, c, rfl⟩ := hv.cut
  have HV := Lib.hid hv
  have HF := Lib.hid hf
  clear hv hf
  obtain ⟨W1, hW1⟩ : ∃ W1, w.alloc (.cells (madeCells (Value.cells (.slice none 0 0)) (M.length * 1)) 22) = W1 := ⟨_, rfl⟩
  have hmk : (Instr.makeSlice 25 (.int .i64 (M.length : Int)) (.int .i64 (M.length : Int))).run Try.prog w = .ok (.slice (some ⟨w.heap.size, 0, none⟩) M.length M.length) W1 := by
    have := run_make (P := Try.prog) w 25 22 i0 _ Try.underlying25 hi hz0 .i64 .i64 M.length M.length (by omega) (Int.le_refl _) (by rw [hz2]; omega) (by omega)
    rw [hz1] at this
    rw [← hW1]
    simpa using this
  obtain ⟨rest, hrow0, hsl0⟩ : ∃ rest, W1.ownsRow w.heap.size 22 1 (.slice (some ⟨w.heap.size, 0, none⟩) M.length M.length) M.length rest ∧ (∀ u ∈ rest, IsSl u) := by
    rw [← hW1]
    exact ⟨_, World.ownsRow_lit w _ M.length (Nat.le_refl _) (by unfold maxLen; omega) (size_madeCells _ _), made_sl _⟩
  have HSL := Lib.hid hsl0
  clear hsl0
  have hB1 : Below w.heap.size w W1 := by rw [← hW1]; exact (Below.refl _ w).alloc (Nat.le_refl _) _
  clear hW1 hi hz0 hz1 hz2
  go_enter Try.func50, Try.ntmps50
  go_wp2_with (fail)
  go_loopw [13] (fun i wr => ∃ (k : Nat) (us rest : List Value), i = .int .i64 k ∧ k ≤ M.length ∧ Hid (us.length = k) ∧ Hid (∀ (j : Nat) (u : Value) (x : List Int), us[j]? = some u → ((M.take k).map F)[j]? = some x → Pt wr u x) ∧ wr.ownsRow w.heap.size 22 1 (.slice (some ⟨w.heap.size, 0, none⟩) M.length M.length) M.length (us ++ rest) ∧ Hid (∀ u ∈ us ++ rest, IsSl u) ∧ Below w.heap.size w wr) (fun i _ => M.length - (intOf i).toNat)
  case atStart => exact ⟨0, [], rest, rfl, Nat.zero_le _, Lib.hid rfl, Lib.hid (fun j u x h => by simp at h), by simpa using hrow0, Lib.hid (by simpa using HSL.out), hB1⟩
  case round =>
    obtain ⟨k, us, rest', rfl, hk, HU, HQ, hrow, HS, hB⟩ := hrel
    by_cases hlt : k < M.length
    · obtain ⟨r, hr⟩ : ∃ r, M[k]? = some r := ⟨M[k], List.getElem?_eq_getElem hlt⟩
      obtain ⟨b, o, u, hpp, hb, rd⟩ := HV.out.rd grows_bx hr
      subst hpp
      have hlk : (k : Int) < M.length := by omega
      obtain ⟨g0, hg0⟩ : ∃ g : Grown w, wr = g.w := ⟨⟨wr, hB⟩, rfl⟩
      subst hg0
      have fA := (rd g0).2.1
      have hP := (rd g0).2.2
      have hC := HF.out r u g0 (List.mem_of_getElem? hr) hP
      have HC := Lib.hid hC
      have HR := Lib.hid hr
      clear rd hP hr hC
      have hwl : w.heap.size < g0.w.heap.size := (hrow.lt w.heap.size rfl).2
      go_wp2_with (fail)
      refine HC.out.mono ?_
      rintro e w5 ⟨v5, rfl, hv5, hB5⟩
      have hrow5 := hrow.kept (grown_below hB5) (.inr (by simp [Value.ownBlock]))
      have hB6 := below_then hB hB5
      obtain ⟨p5, n5, c5, rfl⟩ := pt_sl hv5
      obtain ⟨hlen5, _⟩ := id hrow5
      rw [List.length_append, HU.out] at hlen5
      match rest', hlen5 with
      | [], h => exfalso; simp at h; omega
      | r0 :: rest'', h =>
      have q0 := hrow5.cellAt k (by omega)
      rw [List.getElem?_append_right (by rw [HU.out]; omega), HU.out, Nat.sub_self] at q0
      simp only [List.getElem?_cons_zero] at q0
      have z0 := hrow5.frozenAt k
      clear h
      have s1 := hrow5.stored k (.slice p5 n5 c5)
      have e2 : (us ++ r0 :: rest'').set k (.slice p5 n5 c5) = us ++ [.slice p5 n5 c5] ++ rest'' := by
        rw [List.set_append_right _ _ (by rw [HU.out]; omega), HU.out, Nat.sub_self]
        simp
      rw [e2] at s1
      have hsb : SlB w5 w.heap.size := row_sl hrow5 HS.out
      have hs5 : ∀ u ∈ us ++ [.slice p5 n5 c5] ++ rest'', IsSl u := by
        intro u hu
        simp only [List.append_assoc, List.mem_append, List.mem_singleton] at hu
        rcases hu with hu | rfl | hu
        · exact HS.out u (by simp [hu])
        · exact pt_sl hv5
        · exact HS.out u (by simp [hu])
      have hBs : Below w.heap.size w (w5.setCell ⟨w.heap.size, k, none⟩ (.slice p5 n5 c5)) := hB6.setCell (p := ⟨w.heap.size, k, none⟩) (Nat.le_refl _) _
      have hQ2 : ∀ (j : Nat) (u : Value) (x : List Int), (us ++ [.slice p5 n5 c5])[j]? = some u → ((M.take (k + 1)).map F)[j]? = some x → Pt (w5.setCell ⟨w.heap.size, k, none⟩ (.slice p5 n5 c5)) u x := by
        intro j u x hu hx
        rw [List.take_add_one, HR.out, Option.toList_some, List.map_append] at hx
        by_cases hj : j < k
        · rw [List.getElem?_append_left (by rw [HU.out]; exact hj)] at hu
          rw [List.getElem?_append_left (by rw [List.length_map, List.length_take]; omega)] at hx
          exact offs_pt _ _ _ _ _ _ hsb (grows_pt _ _ _ _ (HQ.out j u x hu hx) hB5)
        · have hju : j = k := by
            have := (List.getElem?_eq_some_iff.1 hu).1
            rw [List.length_append, HU.out, List.length_singleton] at this
            omega
          subst hju
          rw [List.getElem?_append_right (by rw [HU.out]; exact Nat.le_refl _), HU.out, Nat.sub_self] at hu
          rw [List.getElem?_append_right (by rw [List.length_map, List.length_take]; omega), List.length_map, List.length_take, Nat.min_eq_left (by omega), Nat.sub_self] at hx
          simp only [List.map_cons, List.map_nil, List.getElem?_cons_zero, Option.some.injEq] at hu hx
          rw [← hu, ← hx]
          exact offs_pt _ _ _ _ _ _ hsb hv5
      have HS2 := Lib.hid s1.1
      have HQ2 := Lib.hid hQ2
      have HS5 := Lib.hid hs5
      clear s1 e2 hQ2 hrow HC hsb hs5 hv5
      go_wp2_with (fail)
      go_roundw
      case rel => exact ⟨k + 1, us ++ [.slice p5 n5 c5], rest'', by go_num, by omega, Lib.hid (by simp [HU.out]), HQ2, HS2.out, HS5, hBs⟩
      case measure => simp [intOf]; omega
    · obtain rfl : k = M.length := by omega
      go_wp2_with (fail)
      go_ret
      refine ⟨_, rfl, ?_, hB⟩
      have hlen := hrow.1
      rw [List.length_append, HU.out] at hlen
      have hr : rest' = [] := List.length_eq_zero_iff.1 (by omega)
      rw [hr, List.append_nil] at hrow
      have hQ := HQ.out
      rw [List.take_of_length_le (Nat.le_refl _)] at hQ
      exact Lx.own (by simpa using hrow) (by simp; unfold maxLen; omega) hQ
end Go.Proofs.Ytmcdkbnpcmiojaa

namespace Go.Proofs.Ytmcdkbnpcmiojaa
open Go.ChangeShapes Go.WideShapes Go.ChangeAt Go.RowKit
set_option linter.unusedVariables false
set_option linter.unusedSimpArgs false
set_option maxRecDepth 100000

attribute [local irreducible] Calls
attribute [local go_sem ↓] run_min_two
def mulI (z : (Int × Int) × (Int × Int)) : Int × Int := (mulLo z.1.1 z.1.2 z.2.1 z.2.2, mulHi z.1.1 z.1.2 z.2.1 z.2.2)
def dot1 (s : Int × Int) (z : (Int × Int) × (Int × Int)) : Int × Int := addI s (mulI z)
def dotI (l : List ((Int × Int) × (Int × Int))) : Int × Int := l.foldl dot1 (0, 0)
theorem mul_vb (z : (Int × Int) × (Int × Int)) : VB (mulI z) := mul_vi _ _ _ _
theorem dot_vb : ∀ (l : List ((Int × Int) × (Int × Int))) (s : Int × Int), VB s → VB (l.foldl dot1 s)
  | [], _, h => h
  | z :: l, s, h => dot_vb l _ (add_vb h (mul_vb z))
theorem dotI_vb (l : List ((Int × Int) × (Int × Int))) : VB (dotI l) := dot_vb l _ vb_zero
theorem dotI_snoc (l : List ((Int × Int) × (Int × Int))) (z : (Int × Int) × (Int × Int)) : dotI (l ++ [z]) = dot1 (dotI l) z := by simp [dotI]
theorem Bx.cut {w : World} {v : Value} {l : List (Int × Int)} (h : Bx w v l) : ∃ p c, v = .slice p l.length c := by
  obtain ⟨_, p, c, e, _⟩ := h
  exact ⟨p, c, e⟩
theorem Bx.shape {w : World} {v : Value} {l : List (Int × Int)} {n : Nat} (h : Bx w v l) (hn : l.length = n) : ∃ p c, v = .slice p n c := by
  obtain ⟨_, p, c, e, _⟩ := h
  exact ⟨p, c, by rw [e, hn]⟩
theorem Bx.rd2 {w : World} {p : Option Addr} {n c j : Nat} {l : List (Int × Int)} {x y : Int} (h : Bx w (.slice p n c) l) (hx : l[j]? = some (x, y)) : ∃ b o, p = some ⟨b, o, none⟩ ∧ b < w.heap.size ∧ ∀ g : Grown w, b < g.w.heap.size ∧ g.w.cell? ⟨b, o + j * 2, none⟩ = some (.int .i64 x) ∧ g.w.cell? ⟨b, o + j * 2 + 1, none⟩ = some (.int .i64 y) := by
  obtain ⟨_, q, c', e, h⟩ := h
  obtain ⟨b, o, hq, h1, h2, h3⟩ := h j (x, y) hx
  simp only [Value.slice.injEq] at e
  exact ⟨b, o, e.1.trans hq, h1, fun g => ⟨Nat.lt_of_lt_of_le h1 g.h.size, (g.cell (b := b) h1).trans h2, (g.cell (b := b) h1).trans h3⟩⟩
set_option maxHeartbeats 8000000 in
theorem mx_product (va vb : Value) (la lb : List (Int × Int)) (n : Nat) (w : World) (hva : Bx w va la) (hvb : Bx w vb lb) (hla : la.length = n) (hlb : lb.length = n) (hV1 : ∀ p ∈ la, VB p) (hV2 : ∀ p ∈ lb, VB p) :
    Calls Try.prog 38 #[va, vb] w fun e w' => e = .returned (.agg #[.int .i64 (dotI (la.zip lb)).1, .int .i64 (dotI (la.zip lb)).2]) ∧ Below w.heap.size w w' := by
  have hl := hva.1
  rw [hla] at hl
  unfold maxLen at hl
  obtain ⟨pa, ca, rfl⟩ := hva.shape hla
  obtain ⟨pb, cb, rfl⟩ := hvb.shape hlb
  have HA := Lib.hid hva
  have HB := Lib.hid hvb
  have HLA := Lib.hid hla
  have HLB := Lib.hid hlb
  have HV1 := Lib.hid hV1
  have HV2 := Lib.hid hV2
  clear hva hvb hla hlb hV1 hV2
  go_enter Try.func38, Try.ntmps38
  go_wp2_with (fail)
  go_loopw [12] (fun i wr => ∃ (k : Nat) (s1 s2 : Int), i = .int .i64 k ∧ k ≤ n ∧ Hid ((s1, s2) = dotI ((la.zip lb).take k)) ∧ IvBox wr (w.heap.size + 1) (s1, s2) ∧ IvBox wr w.heap.size (0, 0) ∧ Below w.heap.size w wr) (fun i _ => n - (intOf i).toNat)
  case atStart =>
    refine ⟨0, 0, 0, rfl, Nat.zero_le _, Lib.hid (by simp [dotI]), by simpa using IvBox.new (w.alloc (.cells #[.int .i64 0, .int .i64 0] 38)) 0 0, (IvBox.new w 0 0).alloc _, ?_⟩
    exact ((Below.refl _ _).alloc (Nat.le_refl _) _).alloc (by simp) _
  case round =>
    obtain ⟨k, s1, s2, rfl, hk, HS, hI1, hI0, hB⟩ := hrel
    by_cases hlt : k < n
    · have hlt1 : k < la.length := by rw [HLA.out]; exact hlt
      have hlt2 : k < lb.length := by rw [HLB.out]; exact hlt
      obtain ⟨x, y, hx⟩ : ∃ x y, la[k]? = some (x, y) := ⟨la[k].1, la[k].2, List.getElem?_eq_getElem hlt1⟩
      obtain ⟨z1, z2, hy⟩ : ∃ z1 z2, lb[k]? = some (z1, z2) := ⟨lb[k].1, lb[k].2, List.getElem?_eq_getElem hlt2⟩
      have hz : (la.zip lb)[k]? = some ((x, y), (z1, z2)) := List.getElem?_zip_eq_some.2 ⟨hx, hy⟩
      have hv1 : VI x y := HV1.out _ (List.mem_of_getElem? hx)
      have hv2 : VI z1 z2 := HV2.out _ (List.mem_of_getElem? hy)
      obtain ⟨ba, oa, hpa, hba, rdA⟩ := (HA.out.grow hB).rd2 hx
      obtain ⟨bb, ob, hpb, hbb, rdB⟩ := (HB.out.grow hB).rd2 hy
      subst hpa hpb
      have fA := (rdA ⟨wr, Below.refl _ _⟩).2.1
      have gA := (rdA ⟨wr, Below.refl _ _⟩).2.2
      have fB := (rdB ⟨wr, Below.refl _ _⟩).2.1
      have gB := (rdB ⟨wr, Below.refl _ _⟩).2.2
      dsimp only at fA gA fB gB
      clear rdA rdB hlt1 hlt2
      have i1 : (k : Int) < n := by omega
      have hsv : VI s1 s2 := by
        have := dotI_vb ((la.zip lb).take k)
        rw [← HS.out] at this
        exact this
      obtain ⟨p1, p2, hp⟩ : ∃ p1 p2, mulI ((x, y), (z1, z2)) = (p1, p2) := ⟨_, _, rfl⟩
      obtain ⟨r1, r2, hr⟩ : ∃ r1 r2, addI (s1, s2) (p1, p2) = (r1, r2) := ⟨_, _, rfl⟩
      have hpv : VI p1 p2 := by
        have := mul_vb ((x, y), (z1, z2))
        rw [hp] at this
        exact this
      have c1 := fun w => iv_mul x y z1 z2 w hv1 hv2
      have c2 := fun w => iv_add s1 s2 p1 p2 w hsv hpv
      rw [show mulLo x y z1 z2 = p1 from congrArg Prod.fst hp, show mulHi x y z1 z2 = p2 from congrArg Prod.snd hp] at c1
      rw [show addLo s1 s2 p1 p2 = r1 from congrArg Prod.fst hr, show addHi s1 s2 p1 p2 = r2 from congrArg Prod.snd hr] at c2
      have HS' : Hid ((r1, r2) = dotI ((la.zip lb).take (k + 1))) := Lib.hid (by
        rw [List.take_add_one, hz, Option.toList_some, dotI_snoc, ← HS.out]
        show _ = addI (s1, s2) (mulI ((x, y), (z1, z2)))
        rw [hp, hr])
      have C1 := Lib.hid c1
      have C2 := Lib.hid c2
      clear c1 c2 hp hr hpv hsv hz hx hy hv1 hv2
      have hY0 := hI0.lt
      have hY1 := hI1.lt
      go_wp2_with (fail)
      refine region_data 11 38 _ (by kernel_rfl) new_iv (by kernel_rfl) ?_
      refine data_op _ rfl (RQ_load rfl rfl (load_iv (x := s1) (y := s2) hI1.lt hI1.cell0 hI1.cell1)) ?_
      simp only [Act.put, List.setIfInBounds_toArray, List.set_cons_succ, List.set_cons_zero]
      refine data_op (.slice (some ⟨ba, oa, none⟩) n ca) rfl (RQ_pure (fun w => by simp [go_sem])) ?_
      simp only [Act.put, List.setIfInBounds_toArray, List.set_cons_succ, List.set_cons_zero]
      refine data_op (.int .i64 (k : Int)) rfl (RQ_pure (fun w => by simp [go_sem])) ?_
      simp only [Act.put, List.setIfInBounds_toArray, List.set_cons_succ, List.set_cons_zero]
      refine data_op (.pointer (some ⟨ba, oa + k * 2, none⟩)) rfl (RQ_pure (fun w => by simp [go_sem, i1])) ?_
      simp only [Act.put, List.setIfInBounds_toArray, List.set_cons_succ, List.set_cons_zero]
      refine data_op _ rfl (RQ_load rfl rfl (load_iv_at hba fA gA)) ?_
      simp only [Act.put, List.setIfInBounds_toArray, List.set_cons_succ, List.set_cons_zero]
      refine data_op (.slice (some ⟨bb, ob, none⟩) n cb) rfl (RQ_pure (fun w => by simp [go_sem])) ?_
      simp only [Act.put, List.setIfInBounds_toArray, List.set_cons_succ, List.set_cons_zero]
      refine data_op (.int .i64 (k : Int)) rfl (RQ_pure (fun w => by simp [go_sem])) ?_
      simp only [Act.put, List.setIfInBounds_toArray, List.set_cons_succ, List.set_cons_zero]
      refine data_op (.pointer (some ⟨bb, ob + k * 2, none⟩)) rfl (RQ_pure (fun w => by simp [go_sem, i1])) ?_
      simp only [Act.put, List.setIfInBounds_toArray, List.set_cons_succ, List.set_cons_zero]
      refine data_op _ rfl (RQ_load rfl rfl (load_iv_at hbb fB gB)) ?_
      simp only [Act.put, List.setIfInBounds_toArray, List.set_cons_succ, List.set_cons_zero]
      refine data_op _ rfl (RQ_call C1.out (fun _ => by simp [go_sem])) ?_
      simp only [Act.put, List.setIfInBounds_toArray, List.set_cons_succ, List.set_cons_zero]
      refine data_op _ rfl (RQ_call C2.out (fun _ => by simp [go_sem])) ?_
      simp only [Act.put, List.setIfInBounds_toArray, List.set_cons_succ, List.set_cons_zero]
      refine data_end ?_
      intro w5 hB5
      simp only [Act.put, List.drop_succ_cons, List.drop_zero, List.take_succ_cons, List.take_zero, alDsts, List.filterMap_cons, List.filterMap_nil, isAl, Bool.false_eq_true, if_false, if_true, finK]
      have hJ1 : IvBox w5 (w.heap.size + 1) (s1, s2) := (hB5.block _ hI1.lt).trans hI1
      have hJ0 : IvBox w5 w.heap.size (0, 0) := (hB5.block _ hI0.lt).trans hI0
      have j0 := hJ1.cell0
      have j1 := hJ1.cell1
      have j2 := hJ1.frozen 0
      have j3 := hJ1.frozen 1
      dsimp only at j0 j1
      have hK1 := hJ1.set r1 r2
      have hK0 : IvBox ((w5.setCell ⟨w.heap.size + 1, 0, none⟩ (.int .i64 r1)).setCell ⟨w.heap.size + 1, 1, none⟩ (.int .i64 r2)) w.heap.size (0, 0) := ((heap_set (by simp)).trans (heap_set (by simp))).trans hJ0
      have hB6 : Below w.heap.size w ((w5.setCell ⟨w.heap.size + 1, 0, none⟩ (.int .i64 r1)).setCell ⟨w.heap.size + 1, 1, none⟩ (.int .i64 r2)) := ((below_then hB hB5).setCell (p := ⟨w.heap.size + 1, 0, none⟩) (by simp) _).setCell (p := ⟨w.heap.size + 1, 1, none⟩) (by simp) _
      clear hJ1 hJ0 hI1 hI0
      go_wp2_with (fail)
      go_roundw
      case rel => exact ⟨k + 1, r1, r2, by go_num, by omega, HS', hK1, hK0, hB6⟩
      case measure => simp [intOf]; omega
    · obtain rfl : k = n := by omega
      have j0 := hI1.cell0
      have j1 := hI1.cell1
      have k0 := hI0.cell0
      have k1 := hI0.cell1
      have k2 := hI0.frozen 0
      have k3 := hI0.frozen 1
      have hK0 := hI0.set s1 s2
      have m0 := hK0.cell0
      have m1 := hK0.cell1
      dsimp only at j0 j1 k0 k1 m0 m1
      have hB6 : Below w.heap.size w ((wr.setCell ⟨w.heap.size, 0, none⟩ (.int .i64 s1)).setCell ⟨w.heap.size, 1, none⟩ (.int .i64 s2)) := (hB.setCell (p := ⟨w.heap.size, 0, none⟩) (by simp) _).setCell (p := ⟨w.heap.size, 1, none⟩) (by simp) _
      have hS := HS.out
      rw [List.take_of_length_le (by rw [List.length_zip, HLA.out, HLB.out]; omega)] at hS
      have HS2 := Lib.hid hS
      clear hS hI1 hI0
      go_wp2_with (fail)
      refine bodyPost_ret (v := .agg #[.int .i64 s1, .int .i64 s2]) (by simp [results, Try.results38, go_sem, m0, m1]) rfl ⟨?_, hB6⟩
      rw [← HS2.out]
set_option maxHeartbeats 2000000 in
theorem mx_apply1 (X : Nat) (u vb : Value) (r lb : List (Int × Int)) (n : Nat) (w : World) (hX : X < w.heap.size) (hc : w.cell? ⟨X, 0, none⟩ = some vb) (hu : Bx w u r) (hvb : Bx w vb lb) (hla : r.length = n) (hlb : lb.length = n) (hV1 : ∀ p ∈ r, VB p) (hV2 : ∀ p ∈ lb, VB p) :
    Calls Try.prog 37 #[u, .pointer (some ⟨X, 0, none⟩)] w fun e w' => e = .returned (.agg #[.int .i64 (dotI (r.zip lb)).1, .int .i64 (dotI (r.zip lb)).2]) ∧ Below w.heap.size w w' := by
  have c1 := fun w' (hB : Below w.heap.size w w') => mx_product u vb r lb n w' (hu.grow hB) (hvb.grow hB) hla hlb hV1 hV2
  obtain ⟨pu, cu, rfl⟩ := hu.cut
  obtain ⟨pb, cb, rfl⟩ := hvb.cut
  have C1 := Lib.hid c1
  clear c1 hu hvb hla hlb hV1 hV2
  obtain ⟨d1, hd1⟩ : ∃ x, (dotI (r.zip lb)).1 = x := ⟨_, rfl⟩
  obtain ⟨d2, hd2⟩ : ∃ x, (dotI (r.zip lb)).2 = x := ⟨_, rfl⟩
  rw [hd1, hd2]
  have D1 := Lib.hid hd1
  have D2 := Lib.hid hd2
  clear hd1 hd2
  have hc' : (w.alloc (.cells #[.int .i64 0, .int .i64 0] 38)).cell? ⟨X, 0, none⟩ = some _ := (((Below.refl w.heap.size w).alloc (Nat.le_refl _) _).cell (p := ⟨X, 0, none⟩) hX).trans hc
  go_enter Try.func37, Try.ntmps37
  go_wp2_with (fail)
  refine (C1.out _ ((Below.refl _ _).alloc (Nat.le_refl _) _)).mono ?_
  rintro e w1 ⟨rfl, hB1⟩
  rw [D1.out, D2.out]
  have hI : IvBox w1 w.heap.size (0, 0) := (hB1.block _ (IvBox.new w 0 0).lt).trans (IvBox.new w 0 0)
  have k0 := hI.cell0
  have k1 := hI.cell1
  have k2 := hI.frozen 0
  have k3 := hI.frozen 1
  have hK := hI.set d1 d2
  have m0 := hK.cell0
  have m1 := hK.cell1
  dsimp only at k0 k1 m0 m1
  have hB2 : Below w.heap.size w w1 := ((Below.refl _ w).alloc (Nat.le_refl _) _).trans (hB1.mono (by simp))
  have hB6 : Below w.heap.size w ((w1.setCell ⟨w.heap.size, 0, none⟩ (.int .i64 d1)).setCell ⟨w.heap.size, 1, none⟩ (.int .i64 d2)) := (hB2.setCell (p := ⟨w.heap.size, 0, none⟩) (by simp) _).setCell (p := ⟨w.heap.size, 1, none⟩) (by simp) _
  clear hI hK
  go_wp2_with (fail)
  refine bodyPost_ret (v := .agg #[.int .i64 d1, .int .i64 d2]) (by simp [results, Try.results37, go_sem, m0, m1]) rfl ⟨rfl, hB6⟩
set_option maxHeartbeats 2000000 in
theorem mx_mul11 (X : Nat) (u vb : Value) (r lb : List (Int × Int)) (n : Nat) (w : World) (hX : X < w.heap.size) (hc : w.cell? ⟨X, 0, none⟩ = some vb) (hu : Bx w u r) (hvb : Bx w vb lb) (hla : r.length = n) (hlb : lb.length = n) (hV1 : ∀ p ∈ r, VB p) (hV2 : ∀ p ∈ lb, VB p) :
    Calls Try.prog 47 #[u, .pointer (some ⟨X, 0, none⟩)] w fun e w' => e = .returned (.agg #[.int .i64 (dotI (lb.zip r)).1, .int .i64 (dotI (lb.zip r)).2]) ∧ Below w.heap.size w w' := by
  have c1 := fun w' (hB : Below w.heap.size w w') => mx_product vb u lb r n w' (hvb.grow hB) (hu.grow hB) hlb hla hV2 hV1
  obtain ⟨pu, cu, rfl⟩ := hu.cut
  obtain ⟨pb, cb, rfl⟩ := hvb.cut
  have C1 := Lib.hid c1
  clear c1 hu hvb hla hlb hV1 hV2
  obtain ⟨d1, hd1⟩ : ∃ x, (dotI (lb.zip r)).1 = x := ⟨_, rfl⟩
  obtain ⟨d2, hd2⟩ : ∃ x, (dotI (lb.zip r)).2 = x := ⟨_, rfl⟩
  rw [hd1, hd2]
  have D1 := Lib.hid hd1
  have D2 := Lib.hid hd2
  clear hd1 hd2
  have hc' : (w.alloc (.cells #[.int .i64 0, .int .i64 0] 38)).cell? ⟨X, 0, none⟩ = some _ := (((Below.refl w.heap.size w).alloc (Nat.le_refl _) _).cell (p := ⟨X, 0, none⟩) hX).trans hc
  go_enter Try.func47, Try.ntmps47
  go_wp2_with (fail)
  refine (C1.out _ ((Below.refl _ _).alloc (Nat.le_refl _) _)).mono ?_
  rintro e w1 ⟨rfl, hB1⟩
  rw [D1.out, D2.out]
  have hI : IvBox w1 w.heap.size (0, 0) := (hB1.block _ (IvBox.new w 0 0).lt).trans (IvBox.new w 0 0)
  have k0 := hI.cell0
  have k1 := hI.cell1
  have k2 := hI.frozen 0
  have k3 := hI.frozen 1
  have hK := hI.set d1 d2
  have m0 := hK.cell0
  have m1 := hK.cell1
  dsimp only at k0 k1 m0 m1
  have hB2 : Below w.heap.size w w1 := ((Below.refl _ w).alloc (Nat.le_refl _) _).trans (hB1.mono (by simp))
  have hB6 : Below w.heap.size w ((w1.setCell ⟨w.heap.size, 0, none⟩ (.int .i64 d1)).setCell ⟨w.heap.size, 1, none⟩ (.int .i64 d2)) := (hB2.setCell (p := ⟨w.heap.size, 0, none⟩) (by simp) _).setCell (p := ⟨w.heap.size, 1, none⟩) (by simp) _
  clear hI hK
  go_wp2_with (fail)
  refine bodyPost_ret (v := .agg #[.int .i64 d1, .int .i64 d2]) (by simp [results, Try.results47, go_sem, m0, m1]) rfl ⟨rfl, hB6⟩
set_option maxHeartbeats 2000000 in
theorem mx_apply (vm vb : Value) (M : List (List (Int × Int))) (lb : List (Int × Int)) (n : Nat) (w : World) (hm : Mx w vm M) (hvb : Bx w vb lb) (hsm : M.length ≤ 1000) (hr : ∀ r ∈ M, r.length = n ∧ ∀ p ∈ r, VB p) (hlb : lb.length = n) (hV2 : ∀ p ∈ lb, VB p) :
    Calls Try.prog 17 #[vm, vb] w fun e w' => ∃ u, e = .returned u ∧ Bx w' u (M.map fun r => dotI (r.zip lb)) ∧ Below w.heap.size w w' := by
  have hW : Below w.heap.size w (w.alloc (.cells #[vb] 40)) := (Below.refl _ _).alloc (Nat.le_refl _) _
  have c1 := mx_iv 37 (.pointer (some ⟨w.heap.size, 0, none⟩)) vm M (fun r => dotI (r.zip lb)) (w.alloc (.cells #[vb] 40)) (hm.grow grows_bx hW) hsm (fun args w => by simp [go_sem]) (fun r u g hrm hu => mx_apply1 w.heap.size u vb r lb n g.w (Nat.lt_of_lt_of_le (by simp) g.h.size) ((g.cell (by simp)).trans (by simp [go_sem])) hu ((hvb.grow hW).grow g.h) (hr r hrm).1 hlb (hr r hrm).2 hV2)
  obtain ⟨pm, cm, rfl⟩ := hm.cut
  obtain ⟨pb, cb, rfl⟩ := hvb.cut
  have C1 := Lib.hid c1
  clear c1 hm hvb hr hlb hV2
  go_enter Try.func17, Try.ntmps17
  go_wp2_with (fail)
  refine C1.out.mono ?_
  rintro e w1 ⟨u, rfl, hu, hB1⟩
  go_wp2_with (fail)
  go_ret
  exact ⟨_, rfl, hu, hW.trans (hB1.mono (by simp))⟩
end Go.Proofs.Ytmcdkbnpcmiojaa

namespace Go.Proofs.Ytmcdkbnpcmiojaa
open Go.ChangeShapes Go.WideShapes Go.ChangeAt Go.RowKit
set_option linter.unusedVariables false
set_option linter.unusedSimpArgs false
set_option maxRecDepth 100000

attribute [local irreducible] Calls
theorem mx_from (v : Value) (M : List (List Int)) (w : World) (hv : Nx w v M) (hsm : M.length ≤ 1000) (hr : ∀ r ∈ M, r.length ≤ 1000) :
    Calls Try.prog 14 #[v] w fun e w' => ∃ u, e = .returned u ∧ Mx w' u (M.map (List.map ptI)) ∧ Below w.heap.size w w' := by
  have c1 := mx_num 34 v M (List.map ptI) w hv hsm (fun args w => by simp [go_sem]) (fun r u g hrm hu => box_point u r g.w hu (hr r hrm))
  obtain ⟨p, c, rfl⟩ := hv.cut
  have C1 := Lib.hid c1
  clear c1 hv hr
  go_enter Try.func14, Try.ntmps14
  go_wp2_with (fail)
  refine C1.out.mono ?_
  rintro e w1 ⟨u, rfl, hu, hB⟩
  go_wp2_with (fail)
  go_ret
  exact ⟨_, rfl, hu, hB⟩
theorem mx_midm (v : Value) (M : List (List (Int × Int))) (w : World) (hv : Mx w v M) (hsm : M.length ≤ 1000) (hr : ∀ r ∈ M, r.length ≤ 1000 ∧ ∀ p ∈ r, VB p) :
    Calls Try.prog 21 #[v] w fun e w' => ∃ u, e = .returned u ∧ Nx w' u (M.map (List.map midI)) ∧ Below w.heap.size w w' := by
  have c1 := mx_mid 51 v M (List.map midI) w hv hsm (fun args w => by simp [go_sem]) (fun r u g hrm hu => box_mid u r g.w hu (hr r hrm).1 (hr r hrm).2)
  obtain ⟨p, c, rfl⟩ := hv.cut
  have C1 := Lib.hid c1
  clear c1 hv hr
  go_enter Try.func21, Try.ntmps21
  go_wp2_with (fail)
  refine C1.out.mono ?_
  rintro e w1 ⟨u, rfl, hu, hB⟩
  go_wp2_with (fail)
  go_ret
  exact ⟨_, rfl, hu, hB⟩
def sqB {α : Type} (M : List (List α)) : Bool := M.all (fun r => decide (r.length = M.length)) && (decide (1 ≤ M.length) && decide (M.length ≤ 6))
theorem Pt.cut' {w : World} {v : Value} {l : List Int} (h : Pt w v l) : ∃ p c, v = .slice p l.length c := by
  obtain ⟨_, p, c, e, _⟩ := h
  exact ⟨p, c, e⟩
set_option maxHeartbeats 2000000 in
theorem mx_square (v : Value) (M : List (List (Int × Int))) (w : World) (hv : Lx Bx w v M) :
    Calls Try.prog 39 #[v] w fun e w' => e = .returned (.bool (sqB M)) ∧ Below w.heap.size w w' := by
  have hl := hv.1
  unfold maxLen at hl
  obtain ⟨p, c, rfl⟩ := hv.cut
  have HV := Lib.hid hv
  clear hv
  go_enter Try.func39, Try.ntmps39
  go_wp2_with (fail)
  go_loopw [7] (fun i wr => ∃ k : Nat, i = .int .i64 k ∧ k ≤ M.length ∧ Hid ((M.take k).all (fun r => decide (r.length = M.length)) = true) ∧ ∃ g : Grown w, wr = g.w) (fun i _ => M.length - (intOf i).toNat)
  case atStart => exact ⟨0, rfl, Nat.zero_le _, Lib.hid (by simp), ⟨w, Below.refl _ _⟩, rfl⟩
  case round =>
    obtain ⟨k, rfl, hk, hz, g0, rfl⟩ := hrel
    by_cases hlt : k < M.length
    · obtain ⟨r, hr⟩ : ∃ r, M[k]? = some r := ⟨M[k], List.getElem?_eq_getElem hlt⟩
      obtain ⟨b, o, u, hp, hb, rd⟩ := HV.out.rd grows_bx hr
      subst hp
      have fA := (rd g0).2.1
      obtain ⟨pu, cu, rfl⟩ := Bx.cut (rd g0).2.2
      have HR := Lib.hid hr
      clear rd hr
      have i1 : (k : Int) < M.length := by omega
      by_cases he : r.length = M.length
      · have hne : ((r.length : Int) != (M.length : Int)) = false := by simp [he]
        have HE := Lib.hid he
        clear he
        go_wp2_with (fail)
        go_roundw
        case rel =>
          refine ⟨k + 1, by go_num, by omega, Lib.hid ?_, g0, rfl⟩
          rw [List.take_add_one, HR.out, List.all_append, hz.out]
          simp [HE.out]
        case measure => simp [intOf]; omega
      · have hne : ((r.length : Int) != (M.length : Int)) = true := by simp; omega
        have HE := Lib.hid he
        clear he
        go_wp2_with (fail)
        go_ret
        refine ⟨ret_bool ?_, g0.h⟩
        have : M.all (fun r => decide (r.length = M.length)) = false := by
          rw [Bool.eq_false_iff]
          intro h
          exact HE.out (of_decide_eq_true (List.all_eq_true.1 h r (List.mem_of_getElem? HR.out)))
        unfold sqB
        rw [this]
        rfl
    · obtain rfl : k = M.length := by omega
      have hall := hz.out
      rw [List.take_of_length_le (Nat.le_refl _)] at hall
      have HALL := Lib.hid hall
      clear hall
      by_cases g1 : 1 ≤ M.length
      · by_cases g2 : M.length ≤ 6
        · have i1 : (1 : Int) ≤ M.length := by omega
          have i2 : (M.length : Int) ≤ 6 := by omega
          go_wp2_with (fail)
          go_ret
          exact ⟨ret_bool (by unfold sqB; rw [HALL.out]; simp [g1, g2] <;> omega), g0.h⟩
        · have i1 : (1 : Int) ≤ M.length := by omega
          have i2 : (6 : Int) < M.length := by omega
          go_wp2_with (fail)
          go_ret
          exact ⟨ret_bool (by unfold sqB; rw [HALL.out]; simp [g1, g2] <;> omega), g0.h⟩
      · have i1 : (M.length : Int) < 1 := by omega
        go_wp2_with (fail)
        go_ret
        exact ⟨ret_bool (by unfold sqB; rw [HALL.out]; simp [g1]), g0.h⟩
set_option maxHeartbeats 2000000 in
theorem nx_square (v : Value) (M : List (List (Int))) (w : World) (hv : Lx Pt w v M) :
    Calls Try.prog 26 #[v] w fun e w' => e = .returned (.bool (sqB M)) ∧ Below w.heap.size w w' := by
  have hl := hv.1
  unfold maxLen at hl
  obtain ⟨p, c, rfl⟩ := hv.cut
  have HV := Lib.hid hv
  clear hv
  go_enter Try.func26, Try.ntmps26
  go_wp2_with (fail)
  go_loopw [7] (fun i wr => ∃ k : Nat, i = .int .i64 k ∧ k ≤ M.length ∧ Hid ((M.take k).all (fun r => decide (r.length = M.length)) = true) ∧ ∃ g : Grown w, wr = g.w) (fun i _ => M.length - (intOf i).toNat)
  case atStart => exact ⟨0, rfl, Nat.zero_le _, Lib.hid (by simp), ⟨w, Below.refl _ _⟩, rfl⟩
  case round =>
    obtain ⟨k, rfl, hk, hz, g0, rfl⟩ := hrel
    by_cases hlt : k < M.length
    · obtain ⟨r, hr⟩ : ∃ r, M[k]? = some r := ⟨M[k], List.getElem?_eq_getElem hlt⟩
      obtain ⟨b, o, u, hp, hb, rd⟩ := HV.out.rd grows_pt hr
      subst hp
      have fA := (rd g0).2.1
      obtain ⟨pu, cu, rfl⟩ := Pt.cut' (rd g0).2.2
      have HR := Lib.hid hr
      clear rd hr
      have i1 : (k : Int) < M.length := by omega
      by_cases he : r.length = M.length
      · have hne : ((r.length : Int) != (M.length : Int)) = false := by simp [he]
        have HE := Lib.hid he
        clear he
        go_wp2_with (fail)
        go_roundw
        case rel =>
          refine ⟨k + 1, by go_num, by omega, Lib.hid ?_, g0, rfl⟩
          rw [List.take_add_one, HR.out, List.all_append, hz.out]
          simp [HE.out]
        case measure => simp [intOf]; omega
      · have hne : ((r.length : Int) != (M.length : Int)) = true := by simp; omega
        have HE := Lib.hid he
        clear he
        go_wp2_with (fail)
        go_ret
        refine ⟨ret_bool ?_, g0.h⟩
        have : M.all (fun r => decide (r.length = M.length)) = false := by
          rw [Bool.eq_false_iff]
          intro h
          exact HE.out (of_decide_eq_true (List.all_eq_true.1 h r (List.mem_of_getElem? HR.out)))
        unfold sqB
        rw [this]
        rfl
    · obtain rfl : k = M.length := by omega
      have hall := hz.out
      rw [List.take_of_length_le (Nat.le_refl _)] at hall
      have HALL := Lib.hid hall
      clear hall
      by_cases g1 : 1 ≤ M.length
      · by_cases g2 : M.length ≤ 6
        · have i1 : (1 : Int) ≤ M.length := by omega
          have i2 : (M.length : Int) ≤ 6 := by omega
          go_wp2_with (fail)
          go_ret
          exact ⟨ret_bool (by unfold sqB; rw [HALL.out]; simp [g1, g2] <;> omega), g0.h⟩
        · have i1 : (1 : Int) ≤ M.length := by omega
          have i2 : (6 : Int) < M.length := by omega
          go_wp2_with (fail)
          go_ret
          exact ⟨ret_bool (by unfold sqB; rw [HALL.out]; simp [g1, g2] <;> omega), g0.h⟩
      · have i1 : (M.length : Int) < 1 := by omega
        go_wp2_with (fail)
        go_ret
        exact ⟨ret_bool (by unfold sqB; rw [HALL.out]; simp [g1]), g0.h⟩
def vrow (r : List (Int × Int)) : Bool := r.all (fun p => decide (VI p.1 p.2)) && (decide (1 ≤ r.length) && decide (r.length ≤ 6))
set_option maxHeartbeats 2000000 in
theorem mx_valid (v : Value) (M : List (List (Int × Int))) (w : World) (hv : Mx w v M) :
    Calls Try.prog 22 #[v] w fun e w' => e = .returned (.bool (M.all vrow && sqB M)) ∧ Below w.heap.size w w' := by
  have hl := hv.1
  unfold maxLen at hl
  have csq := fun (g : Grown w) => mx_square v M g.w (hv.grow grows_bx g.h)
  obtain ⟨p, c, rfl⟩ := hv.cut
  have HV := Lib.hid hv
  have CSQ := Lib.hid csq
  clear hv csq
  go_enter Try.func22, Try.ntmps22
  go_wp2_with (fail)
  go_loopw [7] (fun i wr => ∃ k : Nat, i = .int .i64 k ∧ k ≤ M.length ∧ Hid ((M.take k).all vrow = true) ∧ ∃ g : Grown w, wr = g.w) (fun i _ => M.length - (intOf i).toNat)
  case atStart => exact ⟨0, rfl, Nat.zero_le _, Lib.hid (by simp), ⟨w, Below.refl _ _⟩, rfl⟩
  case round =>
    obtain ⟨k, rfl, hk, hz, g0, rfl⟩ := hrel
    by_cases hlt : k < M.length
    · obtain ⟨r, hr⟩ : ∃ r, M[k]? = some r := ⟨M[k], List.getElem?_eq_getElem hlt⟩
      obtain ⟨b, o, u, hp, hb, rd⟩ := HV.out.rd grows_bx hr
      subst hp
      have fA := (rd g0).2.1
      have cv := box_valid u r g0.w (rd g0).2.2
      have HR := Lib.hid hr
      obtain ⟨q, hq⟩ : ∃ q, vrow r = q := ⟨_, rfl⟩
      have CV : Hid (Calls Try.prog 52 #[u] g0.w fun e w' => e = .returned (.bool q) ∧ Below g0.w.heap.size g0.w w') := Lib.hid (cv.mono fun e w' ⟨h, hB⟩ => ⟨by rw [h, ← hq]; rfl, hB⟩)
      have HQ := Lib.hid hq
      clear rd hr cv hq
      have i1 : (k : Int) < M.length := by omega
      cases q
      · go_wp2_with (fail)
        refine CV.out.mono ?_
        rintro e w5 ⟨rfl, hB5⟩
        obtain ⟨g1, rfl⟩ := grow g0 hB5
        go_wp2_with (fail)
        go_ret
        refine ⟨ret_bool ?_, g1.h⟩
        have : M.all vrow = false := by
          rw [Bool.eq_false_iff]
          intro h
          rw [List.all_eq_true.1 h r (List.mem_of_getElem? HR.out)] at HQ
          cases HQ.out
        rw [this]
        rfl
      · go_wp2_with (fail)
        refine CV.out.mono ?_
        rintro e w5 ⟨rfl, hB5⟩
        obtain ⟨g1, rfl⟩ := grow g0 hB5
        clear hB5
        go_wp2_with (fail)
        go_roundw
        case rel =>
          refine ⟨k + 1, by go_num, by omega, Lib.hid ?_, g1, rfl⟩
          rw [List.take_add_one, HR.out, List.all_append, hz.out]
          simp [HQ.out]
        case measure => simp [intOf]; omega
    · obtain rfl : k = M.length := by omega
      have hall := hz.out
      rw [List.take_of_length_le (Nat.le_refl _)] at hall
      have HALL := Lib.hid hall
      clear hall
      go_wp2_with (fail)
      refine (CSQ.out g0).mono ?_
      rintro e w5 ⟨rfl, hB5⟩
      obtain ⟨g1, rfl⟩ := grow g0 hB5
      go_wp2_with (fail)
      go_ret
      exact ⟨ret_bool (by rw [HALL.out, Bool.true_and]), g1.h⟩
end Go.Proofs.Ytmcdkbnpcmiojaa

namespace Go.Proofs.Ytmcdkbnpcmiojaa
open Go.ChangeShapes Go.WideShapes Go.ChangeAt Go.RowKit
set_option linter.unusedVariables false
set_option linter.unusedSimpArgs false
set_option maxRecDepth 100000

attribute [local irreducible] Calls
theorem RQ_call_g {P : Program} {w0 : World} {a : Act} {o : Oper} {v : Value} {F : FuncId} {args : Array Value} (hc : ∀ g : Grown w0, Calls P F args g.w fun e w' => e = .returned v ∧ Below g.w.heap.size g.w w') (h : ∀ w, (execOp a.eval o).run P w = .ok (.enter F args) w) : RQ P o a w0 v := fun g => by
  rw [h]
  exact ⟨rfl, hc g⟩
/-- Blocks of before are as they were, but one. -/
def Keep (W W' : World) (O : Nat) : Prop := W.heap.size ≤ W'.heap.size ∧ ∀ b, b < W.heap.size → b ≠ O → W'.heap[b]? = W.heap[b]?
theorem Keep.of {W W' : World} {O : Nat} (h : Below W.heap.size W W') : Keep W W' O := ⟨h.size, fun b hb _ => h.block b hb⟩
theorem Keep.then {A B C : World} {O : Nat} (h : Keep A B O) (k : Keep B C O) : Keep A C O := ⟨Nat.le_trans h.1 k.1, fun b hb hne => (k.2 b (Nat.lt_of_lt_of_le hb h.1) hne).trans (h.2 b hb hne)⟩
theorem Keep.set {A B : World} {O k : Nat} {z : Value} (h : Keep A B O) : Keep A (B.setCell ⟨O, k, none⟩ z) O := ⟨by rw [size_set]; exact h.1, fun b hb hne => (heap_set hne).trans (h.2 b hb hne)⟩
theorem Keep.set' {A B : World} {O R k : Nat} {z : Value} (h : Keep A B O) (hR : A.heap.size ≤ R) : Keep A (B.setCell ⟨R, k, none⟩ z) O := ⟨by rw [size_set]; exact h.1, fun b hb hne => (heap_set (show b ≠ R by omega)).trans (h.2 b hb hne)⟩
theorem keep_bx {W W' : World} {O : Nat} {u : Value} {x : List (Int × Int)} (hs : SlB W O) (hk : Keep W W' O) (h : Bx W u x) : Bx W' u x := by
  obtain ⟨hl, p, cap, rfl, h⟩ := h
  refine ⟨hl, p, cap, rfl, fun j y hy => ?_⟩
  obtain ⟨b, o, rfl, h1, h2, h3⟩ := h j y hy
  have hb : b ≠ O := by
    rintro rfl
    obtain ⟨_, _, _, e⟩ := hs _ _ h2
    cases e
  exact ⟨b, o, rfl, Nat.lt_of_lt_of_le h1 hk.1, (World.cell?_of_block (a := ⟨b, o + j * 2, none⟩) (hk.2 b h1 hb)).trans h2, (World.cell?_of_block (a := ⟨b, o + j * 2 + 1, none⟩) (hk.2 b h1 hb)).trans h3⟩
theorem keep_pt {W W' : World} {O : Nat} {u : Value} {x : List Int} (hs : SlB W O) (hk : Keep W W' O) (h : Pt W u x) : Pt W' u x := by
  obtain ⟨hl, p, cap, rfl, h⟩ := h
  refine ⟨hl, p, cap, rfl, fun j y hy => ?_⟩
  obtain ⟨b, o, rfl, h1, h2⟩ := h j y hy
  have hb : b ≠ O := by
    rintro rfl
    obtain ⟨_, _, _, e⟩ := hs _ _ h2
    cases e
  exact ⟨b, o, rfl, Nat.lt_of_lt_of_le h1 hk.1, (World.cell?_of_block (a := ⟨b, o + j, none⟩) (hk.2 b h1 hb)).trans h2⟩
theorem load_sl {T : TypeId} {w0 : World} {b o : Nat} {p : Option Addr} {n c : Nat} (hT : ∀ w : World, w.cell? ⟨b, o, none⟩ = some (.slice p n c) → (Instr.loadAt T (.pointer (some ⟨b, o, none⟩))).run Try.prog w = .ok (.slice p n c) w) (hb : b < w0.heap.size) (h0 : w0.cell? ⟨b, o, none⟩ = some (.slice p n c)) :
    ∀ g : Grown w0, (Instr.loadAt T (.pointer (some ⟨b, o, none⟩))).run Try.prog g.w = .ok (.slice p n c) g.w := fun g => hT g.w ((g.cell (o := o) hb).trans h0)
def rowOf {α : Type} (F : Nat → Nat → α) (n i : Nat) : List α := (List.range n).map (F i)
def matOf {α : Type} (F : Nat → Nat → α) (n : Nat) : List (List α) := (List.range n).map (rowOf F n)
theorem row_take {α : Type} (F : Nat → α) {n c : Nat} (h : c < n) : ((List.range n).take (c + 1)).map F = ((List.range n).take c).map F ++ [F c] := by
  rw [List.take_add_one, List.getElem?_range h]
  simp
set_option maxHeartbeats 16000000 in
theorem build0o (N : FuncId) (n : Nat) (F : Nat → Nat → Int × Int) (w : World) (hn : n ≤ 1000) (ef : ∀ args w, (callFunc N args).run Try.prog w = .ok (.enter N args) w)
    (hf : ∀ (i j : Nat) (g : Grown w), i < n → j < n → Calls Try.prog N #[.int .i64 (i : Int), .int .i64 (j : Int)] g.w fun e w' => e = .returned (.agg #[.int .i64 (F i j).1, .int .i64 (F i j).2]) ∧ Below g.w.heap.size g.w w') :
    Calls Try.prog 48 #[.int .i64 (n : Int), .func (.func N) #[] #[]] w fun e W' => ∃ us, e = .returned (.slice (some ⟨w.heap.size, 0, none⟩) n n) ∧ W'.ownsRow w.heap.size 40 1 (.slice (some ⟨w.heap.size, 0, none⟩) n n) n us ∧ (∀ u ∈ us, IsSl u) ∧ (∀ (j : Nat) (u : Value), us[j]? = some u → Bx W' u (rowOf F n j)) ∧ Below w.heap.size w W' := by
  have HF := Lib.hid hf
  clear hf
  obtain ⟨p0, pi, pz0, pz1, pz2⟩ := info_parts info_row
  have pmk : ∀ W : World, (Instr.makeSlice 34 (.int .i64 (n : Int)) (.int .i64 (n : Int))).run Try.prog W = .ok (.slice (some ⟨W.heap.size, 0, none⟩) n n) (W.alloc (.cells (madeCells (Value.cells (.slice none 0 0)) (n * 1)) 40)) := fun W => by
    have := run_make (P := Try.prog) W 34 40 p0 _ Try.underlying34 pi pz0 .i64 .i64 n n (by omega) (Int.le_refl _) (by rw [pz2]; omega) (by omega)
    rw [pz1] at this
    simpa using this
  clear pi pz0 pz1 pz2
  obtain ⟨q0, qi, qz0, qz1, qz2⟩ := info_parts info_iv
  have qmk : ∀ W : World, (Instr.makeSlice 40 (.int .i64 (n : Int)) (.int .i64 (n : Int))).run Try.prog W = .ok (.slice (some ⟨W.heap.size, 0, none⟩) n n) (W.alloc (.cells (madeCells (Value.cells (.agg #[.int .i64 0, .int .i64 0])) (n * 2)) 38)) := fun W => by
    have := run_make (P := Try.prog) W 40 38 q0 _ Try.underlying40 qi qz0 .i64 .i64 n n (by omega) (Int.le_refl _) (by rw [qz2]; omega) (by omega)
    rw [qz1] at this
    simpa using this
  clear qi qz0 qz1 qz2
  obtain ⟨W1, hW1⟩ : ∃ W1, w.alloc (.cells (madeCells (Value.cells (.slice none 0 0)) (n * 1)) 40) = W1 := ⟨_, rfl⟩
  have pmk0 := pmk w
  rw [hW1] at pmk0
  obtain ⟨rest, hrow0, hsl0⟩ : ∃ rest, W1.ownsRow w.heap.size 40 1 (.slice (some ⟨w.heap.size, 0, none⟩) n n) n rest ∧ (∀ u ∈ rest, IsSl u) := by
    rw [← hW1]
    exact ⟨_, World.ownsRow_lit w _ n (Nat.le_refl _) (by unfold maxLen; omega) (size_madeCells _ _), made_sl _⟩
  have HSL := Lib.hid hsl0
  have hB1 : Below w.heap.size w W1 := by rw [← hW1]; exact (Below.refl _ w).alloc (Nat.le_refl _) _
  clear hsl0 hW1 pmk
  have QMK := Lib.hid qmk
  clear qmk
  go_enter Try.func48, Try.ntmps48
  go_wp2_with (fail)
  go_loopw [11] (fun i wr => ∃ (k : Nat) (us rest : List Value), i = .int .i64 k ∧ k ≤ n ∧ Hid (us.length = k) ∧ Hid (∀ (j : Nat) (u : Value), us[j]? = some u → Bx wr u (rowOf F n j)) ∧ wr.ownsRow w.heap.size 40 1 (.slice (some ⟨w.heap.size, 0, none⟩) n n) n (us ++ rest) ∧ Hid (∀ u ∈ us ++ rest, IsSl u) ∧ Below w.heap.size w wr) (fun i _ => n - (intOf i).toNat)
  case atStart => exact ⟨0, [], rest, rfl, Nat.zero_le _, Lib.hid rfl, Lib.hid (fun j u h => by simp at h), by simpa using hrow0, Lib.hid (by simpa using HSL.out), hB1⟩
  case round =>
    obtain ⟨k, us, rest', rfl, hk, HU, HQ, hrow, HS, hB⟩ := hrel
    obtain ⟨wo, rfl⟩ : ∃ wo, wo = wr := ⟨_, rfl⟩
    by_cases hlt : k < n
    · have hlk : (k : Int) < n := by omega
      have hwl : w.heap.size < wo.heap.size := (hrow.lt w.heap.size rfl).2
      have qm := QMK.out wo
      obtain ⟨w2, hw2⟩ : ∃ w2, wo.alloc (.cells (madeCells (Value.cells (.agg #[.int .i64 0, .int .i64 0])) (n * 2)) 38) = w2 := ⟨_, rfl⟩
      rw [hw2] at qm
      have hB2 : Below w.heap.size w w2 := by rw [← hw2]; exact hB.alloc hB.size _
      have hk2 : Keep wo w2 w.heap.size := by rw [← hw2]; exact Keep.of ((Below.refl _ _).alloc (Nat.le_refl _) _)
      have hrow2 : w2.ownsRow w.heap.size 40 1 (.slice (some ⟨w.heap.size, 0, none⟩) n n) n (us ++ rest') := by rw [← hw2]; exact hrow.alloc _
      obtain ⟨cs0, hin0⟩ : ∃ cs, w2.ownsRow wo.heap.size 38 2 (.slice (some ⟨wo.heap.size, 0, none⟩) n n) n cs := by
        rw [← hw2]
        exact ⟨_, World.ownsRow_lit wo _ n (Nat.le_refl _) (by unfold maxLen; omega) (size_madeCells _ _)⟩
      have hsl := row_sl hrow HS.out
      have HSB := Lib.hid hsl
      obtain ⟨hlen5, _⟩ := id hrow2
      rw [List.length_append, HU.out] at hlen5
      match rest', hlen5 with
      | [], h => exfalso; simp at h; omega
      | r0 :: rest'', h =>
      have q0 := hrow2.cellAt k (by omega)
      rw [List.getElem?_append_right (by rw [HU.out]; omega), HU.out, Nat.sub_self] at q0
      simp only [List.getElem?_cons_zero] at q0
      have z0 := hrow2.frozenAt k
      clear h
      have s1 := hrow2.stored k (.slice (some ⟨wo.heap.size, 0, none⟩) n n)
      have e2 : (us ++ r0 :: rest'').set k (.slice (some ⟨wo.heap.size, 0, none⟩) n n) = us ++ [.slice (some ⟨wo.heap.size, 0, none⟩) n n] ++ rest'' := by
        rw [List.set_append_right _ _ (by rw [HU.out]; omega), HU.out, Nat.sub_self]
        simp
      rw [e2] at s1
      have hin1 := hin0.kept s1.2 (.inr (by simp [Value.ownBlock]; omega))
      have hB3 : Below w.heap.size w (w2.setCell ⟨w.heap.size, k, none⟩ (.slice (some ⟨wo.heap.size, 0, none⟩) n n)) := hB2.setCell (p := ⟨w.heap.size, k, none⟩) (Nat.le_refl _) _
      have hk3 : Keep wo (w2.setCell ⟨w.heap.size, k, none⟩ (.slice (some ⟨wo.heap.size, 0, none⟩) n n)) w.heap.size := hk2.set
      have hs5 : ∀ u ∈ us ++ [.slice (some ⟨wo.heap.size, 0, none⟩) n n] ++ rest'', IsSl u := by
        intro u hu
        simp only [List.append_assoc, List.mem_append, List.mem_singleton] at hu
        rcases hu with hu | rfl | hu
        · exact HS.out u (by simp [hu])
        · exact ⟨_, _, _, rfl⟩
        · exact HS.out u (by simp [hu])
      have HS5 := Lib.hid hs5
      have hout1 := s1.1
      have HK3 := Lib.hid hk3
      clear hs5 s1 e2 hin0 hrow2 hk2 hsl hk3 hw2
      go_wp2_with (fail)
      go_loopw [20] (fun j wr => ∃ (c : Nat) (ts : List Value), j = .int .i64 c ∧ c ≤ n ∧ wr.ownsRow w.heap.size 40 1 (.slice (some ⟨w.heap.size, 0, none⟩) n n) n (us ++ [.slice (some ⟨wo.heap.size, 0, none⟩) n n] ++ rest'') ∧ wr.ownsRow wo.heap.size 38 2 (.slice (some ⟨wo.heap.size, 0, none⟩) n n) n (cz (((List.range n).take c).map (F k)) ++ ts) ∧ Hid (Keep wo wr w.heap.size) ∧ Below w.heap.size w wr) (fun j _ => n - (intOf j).toNat)
      case atStart => exact ⟨0, cs0, rfl, Nat.zero_le _, hout1, by simpa [cz] using hin1, HK3, hB3⟩
      case round =>
        clear q0 z0 hout1 hin1 hB3 HK3
        obtain ⟨c, ts, rfl, hc, hout, hin, HK, hB4⟩ := hrel
        by_cases hcl : c < n
        · have hci : (c : Int) < n := by omega
          have hC : ∀ g : Grown wr, Calls Try.prog N #[.int .i64 (k : Int), .int .i64 (c : Int)] g.w fun e w' => e = .returned (.agg #[.int .i64 (F k c).1, .int .i64 (F k c).2]) ∧ Below g.w.heap.size g.w w' := fun g => HF.out k c ⟨g.w, below_then hB4 g.h⟩ hlt hcl
          obtain ⟨f1, f2, hF⟩ : ∃ f1 f2, F k c = (f1, f2) := ⟨_, _, rfl⟩
          rw [show (F k c).1 = f1 by rw [hF], show (F k c).2 = f2 by rw [hF]] at hC
          have HC := Lib.hid hC
          have hX : ((List.range n).take (c + 1)).map (F k) = ((List.range n).take c).map (F k) ++ [(f1, f2)] := by rw [row_take (F k) hcl, hF]
          have HX := Lib.hid hX
          have hlc : (cz (((List.range n).take c).map (F k))).length = c * 2 := by rw [cz_len, List.length_map, List.length_take, List.length_range]; omega
          obtain ⟨cs, hcs⟩ : ∃ cs, cz (((List.range n).take c).map (F k)) = cs := ⟨_, rfl⟩
          rw [hcs] at hin hlc
          have HCS := Lib.hid hcs
          have HL := Lib.hid hlc
          clear hC hX hF hcs hlc
          have hol := hout.lt w.heap.size rfl
          have hil := hin.lt wo.heap.size rfl
          have hoc := hout.cellAt k (by omega)
          rw [List.append_assoc, List.getElem?_append_right (by rw [HU.out]; exact Nat.le_refl _), HU.out, Nat.sub_self, List.singleton_append, List.getElem?_cons_zero] at hoc
          go_wp2_with (fail)
          refine region_data 10 38 _ (by kernel_rfl) new_iv (by kernel_rfl) ?_
          refine data_op (.slice (some ⟨w.heap.size, 0, none⟩) n n) rfl (RQ_pure (fun w => by simp [go_sem])) ?_
          simp only [Act.put, List.setIfInBounds_toArray, List.set_cons_succ, List.set_cons_zero]
          refine data_op (.int .i64 (k : Int)) rfl (RQ_pure (fun w => by simp [go_sem])) ?_
          simp only [Act.put, List.setIfInBounds_toArray, List.set_cons_succ, List.set_cons_zero]
          refine data_op (.pointer (some ⟨w.heap.size, k, none⟩)) rfl (RQ_pure (fun w => by simp [go_sem, hlk])) ?_
          simp only [Act.put, List.setIfInBounds_toArray, List.set_cons_succ, List.set_cons_zero]
          refine data_op (.slice (some ⟨wo.heap.size, 0, none⟩) n n) rfl (RQ_load rfl rfl (load_sl (fun w h => by simp [go_sem, h]) hol.2 hoc)) ?_
          simp only [Act.put, List.setIfInBounds_toArray, List.set_cons_succ, List.set_cons_zero]
          refine data_op (.int .i64 (c : Int)) rfl (RQ_pure (fun w => by simp [go_sem])) ?_
          simp only [Act.put, List.setIfInBounds_toArray, List.set_cons_succ, List.set_cons_zero]
          refine data_op (.func (.func N) #[] #[]) rfl (RQ_pure (fun w => by simp [go_sem])) ?_
          simp only [Act.put, List.setIfInBounds_toArray, List.set_cons_succ, List.set_cons_zero]
          refine data_op (.int .i64 (k : Int)) rfl (RQ_pure (fun w => by simp [go_sem])) ?_
          simp only [Act.put, List.setIfInBounds_toArray, List.set_cons_succ, List.set_cons_zero]
          refine data_op (.int .i64 (c : Int)) rfl (RQ_pure (fun w => by simp [go_sem])) ?_
          simp only [Act.put, List.setIfInBounds_toArray, List.set_cons_succ, List.set_cons_zero]
          refine data_op (.agg #[.int .i64 f1, .int .i64 f2]) rfl (RQ_call_g HC.out (fun _ => by simp [go_sem, ef])) ?_
          simp only [Act.put, List.setIfInBounds_toArray, List.set_cons_succ, List.set_cons_zero]
          refine data_op (.pointer (some ⟨wo.heap.size, c * 2, none⟩)) rfl (RQ_pure (fun w => by simp [go_sem, hci])) ?_
          simp only [Act.put, List.setIfInBounds_toArray, List.set_cons_succ, List.set_cons_zero]
          refine data_end ?_
          intro w5 hB5
          simp only [Act.put, List.drop_succ_cons, List.drop_zero, List.take_succ_cons, List.take_zero, alDsts, List.filterMap_cons, List.filterMap_nil, isAl, Bool.false_eq_true, if_false, if_true, finK]
          have hout5 := hout.kept (grown_below hB5) (.inr (by simp [Value.ownBlock]))
          have hin5 := hin.kept (grown_below hB5) (.inr (by simp [Value.ownBlock]))
          have hB6 := below_then hB4 hB5
          have hK5 : Keep wo w5 w.heap.size := HK.out.then (Keep.of hB5)
          obtain ⟨hl5, _⟩ := id hin5
          rw [List.length_append, HL.out] at hl5
          match ts, hl5 with
          | [], h => exfalso; simp at h; omega
          | [_], h => exfalso; simp at h; omega
          | t0 :: t1 :: ts', h =>
          have q0 := hin5.cellAt (c * 2) (by omega)
          have q1 := hin5.cellAt (c * 2 + 1) (by omega)
          rw [List.getElem?_append_right (by rw [HL.out]; omega), HL.out, Nat.sub_self] at q0
          rw [List.getElem?_append_right (by rw [HL.out]; omega), HL.out, show c * 2 + 1 - c * 2 = 1 by omega] at q1
          simp only [List.getElem?_cons_zero, List.getElem?_cons_succ] at q0 q1
          have z0 := hin5.frozenAt (c * 2)
          have z1 := hin5.frozenAt (c * 2 + 1)
          clear h
          have s1 := hin5.stored (c * 2) (.int .i64 f1)
          have s2 := s1.1.stored (c * 2 + 1) (.int .i64 f2)
          have e2 : ((cs ++ t0 :: t1 :: ts').set (c * 2) (.int .i64 f1)).set (c * 2 + 1) (.int .i64 f2) = cs ++ cz [(f1, f2)] ++ ts' := by
            rw [List.set_append_right _ _ (by rw [HL.out]; omega), HL.out, Nat.sub_self, List.set_append_right _ _ (by rw [HL.out]; omega), HL.out, show c * 2 + 1 - c * 2 = 1 by omega]
            simp [cz]
          rw [e2] at s2
          have hout6 := (hout5.kept s1.2 (.inr (by simp [Value.ownBlock]; omega))).kept s2.2 (.inr (by simp [Value.ownBlock]; omega))
          have HS2 := Lib.hid s2.1
          have HO6 := Lib.hid hout6
          have HK6 : Hid (Keep wo ((w5.setCell ⟨wo.heap.size, c * 2, none⟩ (.int .i64 f1)).setCell ⟨wo.heap.size, c * 2 + 1, none⟩ (.int .i64 f2)) w.heap.size) := Lib.hid ((hK5.set' (Nat.le_refl _)).set' (Nat.le_refl _))
          have hB7 : Below w.heap.size w ((w5.setCell ⟨wo.heap.size, c * 2, none⟩ (.int .i64 f1)).setCell ⟨wo.heap.size, c * 2 + 1, none⟩ (.int .i64 f2)) := (hB6.setCell (p := ⟨wo.heap.size, c * 2, none⟩) (Nat.le_of_lt hwl) _).setCell (p := ⟨wo.heap.size, c * 2 + 1, none⟩) (Nat.le_of_lt hwl) _
          clear s1 s2 e2 hout6 hout5 hin5 hout hin hK5
          go_wp2_with (fail)
          go_roundw
          case rel =>
            refine ⟨c + 1, ts', by go_num, by omega, HO6.out, ?_, HK6, hB7⟩
            rw [HX.out, cz_app, HCS.out]
            exact HS2.out
          case measure => simp [intOf]; omega
        · obtain rfl : c = n := by omega
          go_wp2_with (fail)
          go_roundw
          case rel =>
            have hts : ts = [] := by
              have := hin.1
              rw [List.length_append, cz_len, List.length_map, List.length_take, List.length_range] at this
              exact List.length_eq_zero_iff.1 (by omega)
            rw [hts, List.append_nil, List.take_of_length_le (by simp)] at hin
            have hlastB : Bx wr (.slice (some ⟨wo.heap.size, 0, none⟩) c c) (rowOf F c k) := by
              have hl : (rowOf F c k).length = c := by simp [rowOf]
              have := Bx.own (l := rowOf F c k) (v := .slice (some ⟨wo.heap.size, 0, none⟩) c c) (B := wo.heap.size) (W := wr) (by rw [hl]; exact hin) (by rw [hl]; unfold maxLen; omega)
              exact this
            refine ⟨k + 1, us ++ [.slice (some ⟨wo.heap.size, 0, none⟩) c c], rest'', by go_num, by omega, Lib.hid (by simp [HU.out]), Lib.hid (fun j u hu => ?_), hout, HS5, hB4⟩
            by_cases hj : j < k
            · rw [List.getElem?_append_left (by rw [HU.out]; exact hj)] at hu
              exact keep_bx HSB.out HK.out (HQ.out j u hu)
            · have hju : j = k := by
                have := (List.getElem?_eq_some_iff.1 hu).1
                rw [List.length_append, HU.out, List.length_singleton] at this
                omega
              subst hju
              rw [List.getElem?_append_right (by rw [HU.out]; exact Nat.le_refl _), HU.out, Nat.sub_self] at hu
              simp only [List.getElem?_cons_zero, Option.some.injEq] at hu
              rw [← hu]
              exact hlastB
          case measure => simp [intOf]; omega
    · obtain rfl : k = n := by omega
      go_wp2_with (fail)
      go_ret
      have hlen := hrow.1
      rw [List.length_append, HU.out] at hlen
      have hr : rest' = [] := List.length_eq_zero_iff.1 (by omega)
      rw [hr, List.append_nil] at hrow
      have hS := HS.out
      rw [hr, List.append_nil] at hS
      exact ⟨us, rfl, hrow, hS, HQ.out, hB⟩
theorem build0 (N : FuncId) (n : Nat) (F : Nat → Nat → Int × Int) (w : World) (hn : n ≤ 1000) (ef : ∀ args w, (callFunc N args).run Try.prog w = .ok (.enter N args) w)
    (hf : ∀ (i j : Nat) (g : Grown w), i < n → j < n → Calls Try.prog N #[.int .i64 (i : Int), .int .i64 (j : Int)] g.w fun e w' => e = .returned (.agg #[.int .i64 (F i j).1, .int .i64 (F i j).2]) ∧ Below g.w.heap.size g.w w') :
    Calls Try.prog 48 #[.int .i64 (n : Int), .func (.func N) #[] #[]] w fun e W' => ∃ u, e = .returned u ∧ Lx Bx W' u (matOf F n) ∧ Below w.heap.size w W' := by
  refine (build0o N n F w hn ef hf).mono ?_
  rintro e W' ⟨us, rfl, hrow, _, hq, hB⟩
  refine ⟨_, rfl, ?_, hB⟩
  have hl : (matOf F n).length = n := by simp [matOf]
  refine Lx.own (B := w.heap.size) (t := 40) (us := us) (by rw [hl]; exact hrow) (by rw [hl]; unfold maxLen; omega) (fun j u x hu hx => ?_)
  have hjk : j < n := by
    have := (List.getElem?_eq_some_iff.1 hu).1
    have e := hrow.1
    omega
  have e : x = rowOf F n j := by
    unfold matOf at hx
    rw [List.getElem?_map, List.getElem?_range hjk] at hx
    simpa using hx.symm
  rw [e]
  exact hq j u hu
set_option maxHeartbeats 16000000 in
theorem build1 (N : FuncId) (c0 : Value) (n : Nat) (F : Nat → Nat → Int × Int) (w : World) (hn : n ≤ 1000) (ef : ∀ args w, (callFunc N args).run Try.prog w = .ok (.enter N args) w)
    (hf : ∀ (i j : Nat) (g : Grown w), i < n → j < n → Calls Try.prog N #[.int .i64 (i : Int), .int .i64 (j : Int), c0] g.w fun e w' => e = .returned (.agg #[.int .i64 (F i j).1, .int .i64 (F i j).2]) ∧ Below g.w.heap.size g.w w') :
    Calls Try.prog 48 #[.int .i64 (n : Int), .func (.func N) #[] #[c0]] w fun e W' => ∃ u, e = .returned u ∧ Lx Bx W' u (matOf F n) ∧ Below w.heap.size w W' := by
  have HF := Lib.hid hf
  clear hf
  obtain ⟨p0, pi, pz0, pz1, pz2⟩ := info_parts info_row
  have pmk : ∀ W : World, (Instr.makeSlice 34 (.int .i64 (n : Int)) (.int .i64 (n : Int))).run Try.prog W = .ok (.slice (some ⟨W.heap.size, 0, none⟩) n n) (W.alloc (.cells (madeCells (Value.cells (.slice none 0 0)) (n * 1)) 40)) := fun W => by
    have := run_make (P := Try.prog) W 34 40 p0 _ Try.underlying34 pi pz0 .i64 .i64 n n (by omega) (Int.le_refl _) (by rw [pz2]; omega) (by omega)
    rw [pz1] at this
    simpa using this
  clear pi pz0 pz1 pz2
  obtain ⟨q0, qi, qz0, qz1, qz2⟩ := info_parts info_iv
  have qmk : ∀ W : World, (Instr.makeSlice 40 (.int .i64 (n : Int)) (.int .i64 (n : Int))).run Try.prog W = .ok (.slice (some ⟨W.heap.size, 0, none⟩) n n) (W.alloc (.cells (madeCells (Value.cells (.agg #[.int .i64 0, .int .i64 0])) (n * 2)) 38)) := fun W => by
    have := run_make (P := Try.prog) W 40 38 q0 _ Try.underlying40 qi qz0 .i64 .i64 n n (by omega) (Int.le_refl _) (by rw [qz2]; omega) (by omega)
    rw [qz1] at this
    simpa using this
  clear qi qz0 qz1 qz2
  obtain ⟨W1, hW1⟩ : ∃ W1, w.alloc (.cells (madeCells (Value.cells (.slice none 0 0)) (n * 1)) 40) = W1 := ⟨_, rfl⟩
  have pmk0 := pmk w
  rw [hW1] at pmk0
  obtain ⟨rest, hrow0, hsl0⟩ : ∃ rest, W1.ownsRow w.heap.size 40 1 (.slice (some ⟨w.heap.size, 0, none⟩) n n) n rest ∧ (∀ u ∈ rest, IsSl u) := by
    rw [← hW1]
    exact ⟨_, World.ownsRow_lit w _ n (Nat.le_refl _) (by unfold maxLen; omega) (size_madeCells _ _), made_sl _⟩
  have HSL := Lib.hid hsl0
  have hB1 : Below w.heap.size w W1 := by rw [← hW1]; exact (Below.refl _ w).alloc (Nat.le_refl _) _
  clear hsl0 hW1 pmk
  have QMK := Lib.hid qmk
  clear qmk
  go_enter Try.func48, Try.ntmps48
  go_wp2_with (fail)
  go_loopw [11] (fun i wr => ∃ (k : Nat) (us rest : List Value), i = .int .i64 k ∧ k ≤ n ∧ Hid (us.length = k) ∧ Hid (∀ (j : Nat) (u : Value), us[j]? = some u → Bx wr u (rowOf F n j)) ∧ wr.ownsRow w.heap.size 40 1 (.slice (some ⟨w.heap.size, 0, none⟩) n n) n (us ++ rest) ∧ Hid (∀ u ∈ us ++ rest, IsSl u) ∧ Below w.heap.size w wr) (fun i _ => n - (intOf i).toNat)
  case atStart => exact ⟨0, [], rest, rfl, Nat.zero_le _, Lib.hid rfl, Lib.hid (fun j u h => by simp at h), by simpa using hrow0, Lib.hid (by simpa using HSL.out), hB1⟩
  case round =>
    obtain ⟨k, us, rest', rfl, hk, HU, HQ, hrow, HS, hB⟩ := hrel
    obtain ⟨wo, rfl⟩ : ∃ wo, wo = wr := ⟨_, rfl⟩
    by_cases hlt : k < n
    · have hlk : (k : Int) < n := by omega
      have hwl : w.heap.size < wo.heap.size := (hrow.lt w.heap.size rfl).2
      have qm := QMK.out wo
      obtain ⟨w2, hw2⟩ : ∃ w2, wo.alloc (.cells (madeCells (Value.cells (.agg #[.int .i64 0, .int .i64 0])) (n * 2)) 38) = w2 := ⟨_, rfl⟩
      rw [hw2] at qm
      have hB2 : Below w.heap.size w w2 := by rw [← hw2]; exact hB.alloc hB.size _
      have hk2 : Keep wo w2 w.heap.size := by rw [← hw2]; exact Keep.of ((Below.refl _ _).alloc (Nat.le_refl _) _)
      have hrow2 : w2.ownsRow w.heap.size 40 1 (.slice (some ⟨w.heap.size, 0, none⟩) n n) n (us ++ rest') := by rw [← hw2]; exact hrow.alloc _
      obtain ⟨cs0, hin0⟩ : ∃ cs, w2.ownsRow wo.heap.size 38 2 (.slice (some ⟨wo.heap.size, 0, none⟩) n n) n cs := by
        rw [← hw2]
        exact ⟨_, World.ownsRow_lit wo _ n (Nat.le_refl _) (by unfold maxLen; omega) (size_madeCells _ _)⟩
      have hsl := row_sl hrow HS.out
      have HSB := Lib.hid hsl
      obtain ⟨hlen5, _⟩ := id hrow2
      rw [List.length_append, HU.out] at hlen5
      match rest', hlen5 with
      | [], h => exfalso; simp at h; omega
      | r0 :: rest'', h =>
      have q0 := hrow2.cellAt k (by omega)
      rw [List.getElem?_append_right (by rw [HU.out]; omega), HU.out, Nat.sub_self] at q0
      simp only [List.getElem?_cons_zero] at q0
      have z0 := hrow2.frozenAt k
      clear h
      have s1 := hrow2.stored k (.slice (some ⟨wo.heap.size, 0, none⟩) n n)
      have e2 : (us ++ r0 :: rest'').set k (.slice (some ⟨wo.heap.size, 0, none⟩) n n) = us ++ [.slice (some ⟨wo.heap.size, 0, none⟩) n n] ++ rest'' := by
        rw [List.set_append_right _ _ (by rw [HU.out]; omega), HU.out, Nat.sub_self]
        simp
      rw [e2] at s1
      have hin1 := hin0.kept s1.2 (.inr (by simp [Value.ownBlock]; omega))
      have hB3 : Below w.heap.size w (w2.setCell ⟨w.heap.size, k, none⟩ (.slice (some ⟨wo.heap.size, 0, none⟩) n n)) := hB2.setCell (p := ⟨w.heap.size, k, none⟩) (Nat.le_refl _) _
      have hk3 : Keep wo (w2.setCell ⟨w.heap.size, k, none⟩ (.slice (some ⟨wo.heap.size, 0, none⟩) n n)) w.heap.size := hk2.set
      have hs5 : ∀ u ∈ us ++ [.slice (some ⟨wo.heap.size, 0, none⟩) n n] ++ rest'', IsSl u := by
        intro u hu
        simp only [List.append_assoc, List.mem_append, List.mem_singleton] at hu
        rcases hu with hu | rfl | hu
        · exact HS.out u (by simp [hu])
        · exact ⟨_, _, _, rfl⟩
        · exact HS.out u (by simp [hu])
      have HS5 := Lib.hid hs5
      have hout1 := s1.1
      have HK3 := Lib.hid hk3
      clear hs5 s1 e2 hin0 hrow2 hk2 hsl hk3 hw2
      go_wp2_with (fail)
      go_loopw [20] (fun j wr => ∃ (c : Nat) (ts : List Value), j = .int .i64 c ∧ c ≤ n ∧ wr.ownsRow w.heap.size 40 1 (.slice (some ⟨w.heap.size, 0, none⟩) n n) n (us ++ [.slice (some ⟨wo.heap.size, 0, none⟩) n n] ++ rest'') ∧ wr.ownsRow wo.heap.size 38 2 (.slice (some ⟨wo.heap.size, 0, none⟩) n n) n (cz (((List.range n).take c).map (F k)) ++ ts) ∧ Hid (Keep wo wr w.heap.size) ∧ Below w.heap.size w wr) (fun j _ => n - (intOf j).toNat)
      case atStart => exact ⟨0, cs0, rfl, Nat.zero_le _, hout1, by simpa [cz] using hin1, HK3, hB3⟩
      case round =>
        clear q0 z0 hout1 hin1 hB3 HK3
        obtain ⟨c, ts, rfl, hc, hout, hin, HK, hB4⟩ := hrel
        by_cases hcl : c < n
        · have hci : (c : Int) < n := by omega
          have hC : ∀ g : Grown wr, Calls Try.prog N #[.int .i64 (k : Int), .int .i64 (c : Int), c0] g.w fun e w' => e = .returned (.agg #[.int .i64 (F k c).1, .int .i64 (F k c).2]) ∧ Below g.w.heap.size g.w w' := fun g => HF.out k c ⟨g.w, below_then hB4 g.h⟩ hlt hcl
          obtain ⟨f1, f2, hF⟩ : ∃ f1 f2, F k c = (f1, f2) := ⟨_, _, rfl⟩
          rw [show (F k c).1 = f1 by rw [hF], show (F k c).2 = f2 by rw [hF]] at hC
          have HC := Lib.hid hC
          have hX : ((List.range n).take (c + 1)).map (F k) = ((List.range n).take c).map (F k) ++ [(f1, f2)] := by rw [row_take (F k) hcl, hF]
          have HX := Lib.hid hX
          have hlc : (cz (((List.range n).take c).map (F k))).length = c * 2 := by rw [cz_len, List.length_map, List.length_take, List.length_range]; omega
          obtain ⟨cs, hcs⟩ : ∃ cs, cz (((List.range n).take c).map (F k)) = cs := ⟨_, rfl⟩
          rw [hcs] at hin hlc
          have HCS := Lib.hid hcs
          have HL := Lib.hid hlc
          clear hC hX hF hcs hlc
          have hol := hout.lt w.heap.size rfl
          have hil := hin.lt wo.heap.size rfl
          have hoc := hout.cellAt k (by omega)
          rw [List.append_assoc, List.getElem?_append_right (by rw [HU.out]; exact Nat.le_refl _), HU.out, Nat.sub_self, List.singleton_append, List.getElem?_cons_zero] at hoc
          go_wp2_with (fail)
          refine region_data 10 38 _ (by kernel_rfl) new_iv (by kernel_rfl) ?_
          refine data_op (.slice (some ⟨w.heap.size, 0, none⟩) n n) rfl (RQ_pure (fun w => by simp [go_sem])) ?_
          simp only [Act.put, List.setIfInBounds_toArray, List.set_cons_succ, List.set_cons_zero]
          refine data_op (.int .i64 (k : Int)) rfl (RQ_pure (fun w => by simp [go_sem])) ?_
          simp only [Act.put, List.setIfInBounds_toArray, List.set_cons_succ, List.set_cons_zero]
          refine data_op (.pointer (some ⟨w.heap.size, k, none⟩)) rfl (RQ_pure (fun w => by simp [go_sem, hlk])) ?_
          simp only [Act.put, List.setIfInBounds_toArray, List.set_cons_succ, List.set_cons_zero]
          refine data_op (.slice (some ⟨wo.heap.size, 0, none⟩) n n) rfl (RQ_load rfl rfl (load_sl (fun w h => by simp [go_sem, h]) hol.2 hoc)) ?_
          simp only [Act.put, List.setIfInBounds_toArray, List.set_cons_succ, List.set_cons_zero]
          refine data_op (.int .i64 (c : Int)) rfl (RQ_pure (fun w => by simp [go_sem])) ?_
          simp only [Act.put, List.setIfInBounds_toArray, List.set_cons_succ, List.set_cons_zero]
          refine data_op (.func (.func N) #[] #[c0]) rfl (RQ_pure (fun w => by simp [go_sem])) ?_
          simp only [Act.put, List.setIfInBounds_toArray, List.set_cons_succ, List.set_cons_zero]
          refine data_op (.int .i64 (k : Int)) rfl (RQ_pure (fun w => by simp [go_sem])) ?_
          simp only [Act.put, List.setIfInBounds_toArray, List.set_cons_succ, List.set_cons_zero]
          refine data_op (.int .i64 (c : Int)) rfl (RQ_pure (fun w => by simp [go_sem])) ?_
          simp only [Act.put, List.setIfInBounds_toArray, List.set_cons_succ, List.set_cons_zero]
          refine data_op (.agg #[.int .i64 f1, .int .i64 f2]) rfl (RQ_call_g HC.out (fun _ => by simp [go_sem, ef])) ?_
          simp only [Act.put, List.setIfInBounds_toArray, List.set_cons_succ, List.set_cons_zero]
          refine data_op (.pointer (some ⟨wo.heap.size, c * 2, none⟩)) rfl (RQ_pure (fun w => by simp [go_sem, hci])) ?_
          simp only [Act.put, List.setIfInBounds_toArray, List.set_cons_succ, List.set_cons_zero]
          refine data_end ?_
          intro w5 hB5
          simp only [Act.put, List.drop_succ_cons, List.drop_zero, List.take_succ_cons, List.take_zero, alDsts, List.filterMap_cons, List.filterMap_nil, isAl, Bool.false_eq_true, if_false, if_true, finK]
          have hout5 := hout.kept (grown_below hB5) (.inr (by simp [Value.ownBlock]))
          have hin5 := hin.kept (grown_below hB5) (.inr (by simp [Value.ownBlock]))
          have hB6 := below_then hB4 hB5
          have hK5 : Keep wo w5 w.heap.size := HK.out.then (Keep.of hB5)
          obtain ⟨hl5, _⟩ := id hin5
          rw [List.length_append, HL.out] at hl5
          match ts, hl5 with
          | [], h => exfalso; simp at h; omega
          | [_], h => exfalso; simp at h; omega
          | t0 :: t1 :: ts', h =>
          have q0 := hin5.cellAt (c * 2) (by omega)
          have q1 := hin5.cellAt (c * 2 + 1) (by omega)
          rw [List.getElem?_append_right (by rw [HL.out]; omega), HL.out, Nat.sub_self] at q0
          rw [List.getElem?_append_right (by rw [HL.out]; omega), HL.out, show c * 2 + 1 - c * 2 = 1 by omega] at q1
          simp only [List.getElem?_cons_zero, List.getElem?_cons_succ] at q0 q1
          have z0 := hin5.frozenAt (c * 2)
          have z1 := hin5.frozenAt (c * 2 + 1)
          clear h
          have s1 := hin5.stored (c * 2) (.int .i64 f1)
          have s2 := s1.1.stored (c * 2 + 1) (.int .i64 f2)
          have e2 : ((cs ++ t0 :: t1 :: ts').set (c * 2) (.int .i64 f1)).set (c * 2 + 1) (.int .i64 f2) = cs ++ cz [(f1, f2)] ++ ts' := by
            rw [List.set_append_right _ _ (by rw [HL.out]; omega), HL.out, Nat.sub_self, List.set_append_right _ _ (by rw [HL.out]; omega), HL.out, show c * 2 + 1 - c * 2 = 1 by omega]
            simp [cz]
          rw [e2] at s2
          have hout6 := (hout5.kept s1.2 (.inr (by simp [Value.ownBlock]; omega))).kept s2.2 (.inr (by simp [Value.ownBlock]; omega))
          have HS2 := Lib.hid s2.1
          have HO6 := Lib.hid hout6
          have HK6 : Hid (Keep wo ((w5.setCell ⟨wo.heap.size, c * 2, none⟩ (.int .i64 f1)).setCell ⟨wo.heap.size, c * 2 + 1, none⟩ (.int .i64 f2)) w.heap.size) := Lib.hid ((hK5.set' (Nat.le_refl _)).set' (Nat.le_refl _))
          have hB7 : Below w.heap.size w ((w5.setCell ⟨wo.heap.size, c * 2, none⟩ (.int .i64 f1)).setCell ⟨wo.heap.size, c * 2 + 1, none⟩ (.int .i64 f2)) := (hB6.setCell (p := ⟨wo.heap.size, c * 2, none⟩) (Nat.le_of_lt hwl) _).setCell (p := ⟨wo.heap.size, c * 2 + 1, none⟩) (Nat.le_of_lt hwl) _
          clear s1 s2 e2 hout6 hout5 hin5 hout hin hK5
          go_wp2_with (fail)
          go_roundw
          case rel =>
            refine ⟨c + 1, ts', by go_num, by omega, HO6.out, ?_, HK6, hB7⟩
            rw [HX.out, cz_app, HCS.out]
            exact HS2.out
          case measure => simp [intOf]; omega
        · obtain rfl : c = n := by omega
          go_wp2_with (fail)
          go_roundw
          case rel =>
            have hts : ts = [] := by
              have := hin.1
              rw [List.length_append, cz_len, List.length_map, List.length_take, List.length_range] at this
              exact List.length_eq_zero_iff.1 (by omega)
            rw [hts, List.append_nil, List.take_of_length_le (by simp)] at hin
            have hlastB : Bx wr (.slice (some ⟨wo.heap.size, 0, none⟩) c c) (rowOf F c k) := by
              have hl : (rowOf F c k).length = c := by simp [rowOf]
              have := Bx.own (l := rowOf F c k) (v := .slice (some ⟨wo.heap.size, 0, none⟩) c c) (B := wo.heap.size) (W := wr) (by rw [hl]; exact hin) (by rw [hl]; unfold maxLen; omega)
              exact this
            refine ⟨k + 1, us ++ [.slice (some ⟨wo.heap.size, 0, none⟩) c c], rest'', by go_num, by omega, Lib.hid (by simp [HU.out]), Lib.hid (fun j u hu => ?_), hout, HS5, hB4⟩
            by_cases hj : j < k
            · rw [List.getElem?_append_left (by rw [HU.out]; exact hj)] at hu
              exact keep_bx HSB.out HK.out (HQ.out j u hu)
            · have hju : j = k := by
                have := (List.getElem?_eq_some_iff.1 hu).1
                rw [List.length_append, HU.out, List.length_singleton] at this
                omega
              subst hju
              rw [List.getElem?_append_right (by rw [HU.out]; exact Nat.le_refl _), HU.out, Nat.sub_self] at hu
              simp only [List.getElem?_cons_zero, Option.some.injEq] at hu
              rw [← hu]
              exact hlastB
          case measure => simp [intOf]; omega
    · obtain rfl : k = n := by omega
      go_wp2_with (fail)
      go_ret
      refine ⟨_, rfl, ?_, hB⟩
      have hlen := hrow.1
      rw [List.length_append, HU.out] at hlen
      have hr : rest' = [] := List.length_eq_zero_iff.1 (by omega)
      rw [hr, List.append_nil] at hrow
      have hl : (matOf F k).length = k := by simp [matOf]
      refine Lx.own (B := w.heap.size) (t := 40) (us := us) (by rw [hl]; exact hrow) (by rw [hl]; unfold maxLen; omega) (fun j u x hu hx => ?_)
      have hjk : j < k := by
        have := (List.getElem?_eq_some_iff.1 hu).1
        rw [HU.out] at this
        exact this
      have e : x = rowOf F k j := by
        unfold matOf at hx
        rw [List.getElem?_map, List.getElem?_range hjk] at hx
        simpa using hx.symm
      rw [e]
      exact HQ.out j u hu
end Go.Proofs.Ytmcdkbnpcmiojaa

namespace Go.Proofs.Ytmcdkbnpcmiojaa
open Go.ChangeShapes Go.WideShapes Go.ChangeAt Go.RowKit
set_option linter.unusedVariables false
set_option linter.unusedSimpArgs false
set_option maxRecDepth 100000

attribute [local irreducible] Calls
def idF (i j : Nat) : Int × Int := if i = j then (65536, 65536) else (0, 0)
set_option maxHeartbeats 2000000 in
theorem mx_id1 (i j : Nat) (w : World) :
    Calls Try.prog 53 #[.int .i64 (i : Int), .int .i64 (j : Int)] w fun e w' => e = .returned (.agg #[.int .i64 (idF i j).1, .int .i64 (idF i j).2]) ∧ Below w.heap.size w w' := by
  by_cases h : i = j
  · subst h
    have hcp := fun w => iv_point 65536 w
    rw [show mkLo 65536 65536 = 65536 by decide, show mkHi 65536 65536 = 65536 by decide] at hcp
    go_enter Try.func53, Try.ntmps53
    go_wp2_with (fail)
    refine (hcp _).mono ?_
    rintro e w1 ⟨rfl, hB1⟩
    have hI : IvBox w1 w.heap.size (0, 0) := (hB1.block _ (IvBox.new w 0 0).lt).trans (IvBox.new w 0 0)
    have k0 := hI.cell0
    have k1 := hI.cell1
    have k2 := hI.frozen 0
    have k3 := hI.frozen 1
    have hK := hI.set 65536 65536
    have m0 := hK.cell0
    have m1 := hK.cell1
    dsimp only at k0 k1 m0 m1
    have hB2 : Below w.heap.size w w1 := ((Below.refl _ w).alloc (Nat.le_refl _) _).trans (hB1.mono (by simp))
    have hB6 : Below w.heap.size w ((w1.setCell ⟨w.heap.size, 0, none⟩ (.int .i64 65536)).setCell ⟨w.heap.size, 1, none⟩ (.int .i64 65536)) := (hB2.setCell (p := ⟨w.heap.size, 0, none⟩) (by simp) _).setCell (p := ⟨w.heap.size, 1, none⟩) (by simp) _
    clear hI hK
    go_wp2_with (fail)
    refine bodyPost_ret (v := .agg #[.int .i64 65536, .int .i64 65536]) (by simp [results, Try.results53, go_sem, m0, m1]) rfl ⟨?_, hB6⟩
    simp [idF]
  · have hne : ((i : Int) == (j : Int)) = false := by rw [beq_eq_false_iff_ne]; omega
    have hcp := fun w => iv_point 0 w
    rw [show mkLo 0 0 = 0 by decide, show mkHi 0 0 = 0 by decide] at hcp
    go_enter Try.func53, Try.ntmps53
    go_wp2_with (fail)
    refine (hcp _).mono ?_
    rintro e w1 ⟨rfl, hB1⟩
    have hI : IvBox w1 w.heap.size (0, 0) := (hB1.block _ (IvBox.new w 0 0).lt).trans (IvBox.new w 0 0)
    have k0 := hI.cell0
    have k1 := hI.cell1
    have k2 := hI.frozen 0
    have k3 := hI.frozen 1
    have hK := hI.set 0 0
    have m0 := hK.cell0
    have m1 := hK.cell1
    dsimp only at k0 k1 m0 m1
    have hB2 : Below w.heap.size w w1 := ((Below.refl _ w).alloc (Nat.le_refl _) _).trans (hB1.mono (by simp))
    have hB6 : Below w.heap.size w ((w1.setCell ⟨w.heap.size, 0, none⟩ (.int .i64 0)).setCell ⟨w.heap.size, 1, none⟩ (.int .i64 0)) := (hB2.setCell (p := ⟨w.heap.size, 0, none⟩) (by simp) _).setCell (p := ⟨w.heap.size, 1, none⟩) (by simp) _
    clear hI hK
    go_wp2_with (fail)
    refine bodyPost_ret (v := .agg #[.int .i64 0, .int .i64 0]) (by simp [results, Try.results53, go_sem, m0, m1]) rfl ⟨?_, hB6⟩
    simp [idF, h]
theorem mx_ident (n : Nat) (w : World) (h1 : 1 ≤ n) (h6 : n ≤ 6) :
    Calls Try.prog 25 #[.int .i64 (n : Int)] w fun e w' => ∃ u, e = .returned u ∧ Mx w' u (matOf idF n) ∧ Below w.heap.size w w' := by
  have c1 := Lib.hid (build0 53 n idF w (by omega) (fun args w => by simp [go_sem]) (fun i j g _ _ => mx_id1 i j g.w))
  have d1 : decide ((n : Int) < 1) = false := decide_eq_false (by omega)
  have d2 : decide ((6 : Int) < n) = false := decide_eq_false (by omega)
  go_enter Try.func25, Try.ntmps25
  go_wp2_with (fail)
  refine c1.out.mono ?_
  rintro e w1 ⟨u, rfl, hu, hB⟩
  go_wp2_with (fail)
  go_ret
  exact ⟨_, rfl, hu, hB⟩
theorem mx_ident_o (n : Nat) (w : World) (h1 : 1 ≤ n) (h6 : n ≤ 6) :
    Calls Try.prog 25 #[.int .i64 (n : Int)] w fun e w' => ∃ O us, e = .returned (.slice (some ⟨O, 0, none⟩) n n) ∧ w'.ownsRow w.heap.size 40 1 (.slice (some ⟨O, 0, none⟩) n n) n us ∧ (∀ u ∈ us, IsSl u) ∧ (∀ (j : Nat) (u : Value), us[j]? = some u → Bx w' u (rowOf idF n j)) ∧ Below w.heap.size w w' := by
  have c1 := Lib.hid (build0o 53 n idF w (by omega) (fun args w => by simp [go_sem]) (fun i j g _ _ => mx_id1 i j g.w))
  have d1 : decide ((n : Int) < 1) = false := decide_eq_false (by omega)
  have d2 : decide ((6 : Int) < n) = false := decide_eq_false (by omega)
  go_enter Try.func25, Try.ntmps25
  go_wp2_with (fail)
  refine c1.out.mono ?_
  rintro e w1 ⟨us, rfl, h1, h2, h3, hB⟩
  have H1 := Lib.hid h1
  have H2 := Lib.hid h2
  have H3 := Lib.hid h3
  clear h1 h2 h3
  go_wp2_with (fail)
  go_ret
  exact ⟨_, us, rfl, H1.out, H2.out, H3.out, hB⟩
theorem mx_ident_low (x : Int) (w : World) (h : x < 1) :
    Calls Try.prog 25 #[.int .i64 x] w fun e w' => e = .returned (.slice none 0 0) ∧ w = w' := by
  have d1 : decide (x < 1) = true := decide_eq_true h
  go_enter Try.func25, Try.ntmps25
  go_wp2_with (fail)
  go_ret
  exact ⟨rfl, rfl⟩
theorem mx_ident_high (x : Int) (w : World) (h : 6 < x) :
    Calls Try.prog 25 #[.int .i64 x] w fun e w' => e = .returned (.slice none 0 0) ∧ w = w' := by
  have d1 : decide (x < 1) = false := decide_eq_false (by omega)
  have d2 : decide (6 < x) = true := decide_eq_true h
  go_enter Try.func25, Try.ntmps25
  go_wp2_with (fail)
  go_ret
  exact ⟨rfl, rfl⟩
def trF {α : Type} (z : α) (M : List (List α)) (i j : Nat) : α := ((M[j]?.getD [])[i]?).getD z
theorem trF_at {α : Type} {z x : α} {M : List (List α)} {r : List α} {i j : Nat} (hr : M[j]? = some r) (hx : r[i]? = some x) : trF z M i j = x := by
  unfold trF
  rw [hr, Option.getD_some, hx, Option.getD_some]
set_option maxHeartbeats 2000000 in
theorem mx_tr1 (X : Nat) (vm : Value) (M : List (List (Int × Int))) (n i j : Nat) (w : World) (hX : X < w.heap.size) (hc : w.cell? ⟨X, 0, none⟩ = some vm) (hm : Mx w vm M) (hM : M.length = n) (hr : ∀ r ∈ M, r.length = n) (hi : i < n) (hj : j < n) :
    Calls Try.prog 49 #[.int .i64 (i : Int), .int .i64 (j : Int), .pointer (some ⟨X, 0, none⟩)] w fun e w' => e = .returned (.agg #[.int .i64 (trF (0, 0) M i j).1, .int .i64 (trF (0, 0) M i j).2]) ∧ Below w.heap.size w w' := by
  have hjl : j < M.length := by omega
  obtain ⟨r, hrr⟩ : ∃ r, M[j]? = some r := ⟨M[j], List.getElem?_eq_getElem hjl⟩
  have hil : i < r.length := by rw [hr r (List.mem_of_getElem? hrr)]; exact hi
  obtain ⟨x, y, hx⟩ : ∃ x y, r[i]? = some (x, y) := ⟨r[i].1, r[i].2, List.getElem?_eq_getElem hil⟩
  have hF := trF_at (z := ((0 : Int), (0 : Int))) hrr hx
  rw [hF]
  have hW : Below w.heap.size w (w.alloc (.cells #[.int .i64 0, .int .i64 0] 38)) := (Below.refl _ _).alloc (Nat.le_refl _) _
  have hcX := (hW.cell (p := ⟨X, 0, none⟩) hX).trans hc
  obtain ⟨pm, cm, rfl⟩ := hm.shape hM
  obtain ⟨bm, om, u, hpm, hbm, rdM⟩ := hm.rd grows_bx hrr
  subst hpm
  obtain ⟨pu, cu, rfl⟩ := (rdM ⟨w, Below.refl _ _⟩).2.2.shape (hr r (List.mem_of_getElem? hrr))
  have fM := (rdM ⟨_, hW⟩).2.1
  obtain ⟨bu, ou, hpu, hbu, rdU⟩ := (rdM ⟨w, Below.refl _ _⟩).2.2.rd2 hx
  subst hpu
  have fU := (rdU ⟨_, hW⟩).2.1
  have gU := (rdU ⟨_, hW⟩).2.2
  dsimp only at fM fU gU
  have i1 : (i : Int) < n := by omega
  have i2 : (j : Int) < n := by omega
  clear hm hc hr hM rdM rdU hrr hx hF hjl hil
  have hI := IvBox.new w 0 0
  have k0 := hI.cell0
  have k1 := hI.cell1
  have k2 := hI.frozen 0
  have k3 := hI.frozen 1
  have hK := hI.set x y
  have m0 := hK.cell0
  have m1 := hK.cell1
  dsimp only at k0 k1 m0 m1
  have hB6 : Below w.heap.size w (((w.alloc (.cells #[.int .i64 0, .int .i64 0] 38)).setCell ⟨w.heap.size, 0, none⟩ (.int .i64 x)).setCell ⟨w.heap.size, 1, none⟩ (.int .i64 y)) := (hW.setCell (p := ⟨w.heap.size, 0, none⟩) (by simp) _).setCell (p := ⟨w.heap.size, 1, none⟩) (by simp) _
  clear hI hK
  go_enter Try.func49, Try.ntmps49
  go_wp2_with (fail)
  refine bodyPost_ret (v := .agg #[.int .i64 x, .int .i64 y]) (by simp [results, Try.results49, go_sem, m0, m1]) rfl ⟨rfl, (Below.refl _ _).alloc (Nat.le_refl _) _⟩
theorem sq_true {α : Type} {M : List (List α)} {n : Nat} (hM : M.length = n) (hr : ∀ r ∈ M, r.length = n) (h1 : 1 ≤ n) (h6 : n ≤ 6) : sqB M = true := by
  unfold sqB
  rw [hM, show M.all (fun r => decide (r.length = n)) = true from List.all_eq_true.2 fun r h => decide_eq_true (hr r h)]
  simp [h1, h6]
set_option maxHeartbeats 2000000 in
theorem mx_transpose (vm : Value) (M : List (List (Int × Int))) (n : Nat) (w : World) (hm : Mx w vm M) (hM : M.length = n) (hr : ∀ r ∈ M, r.length = n) (h1 : 1 ≤ n) (h6 : n ≤ 6) :
    Calls Try.prog 20 #[vm] w fun e w' => ∃ u, e = .returned u ∧ Mx w' u (matOf (trF (0, 0) M) n) ∧ Below w.heap.size w w' := by
  have hW : Below w.heap.size w (w.alloc (.cells #[vm] 34)) := (Below.refl _ _).alloc (Nat.le_refl _) _
  have c0 := mx_square vm M _ (hm.grow grows_bx hW)
  rw [sq_true hM hr h1 h6] at c0
  have c1 := fun (g : Grown (w.alloc (.cells #[vm] 34))) => build1 49 (.pointer (some ⟨w.heap.size, 0, none⟩)) n (trF (0, 0) M) g.w (by omega) (fun args w => by simp [go_sem])
    (fun i j g' hi hj => mx_tr1 w.heap.size vm M n i j g'.w (Nat.lt_of_lt_of_le (Nat.lt_of_lt_of_le (by simp) g.h.size) g'.h.size) ((g'.cell (Nat.lt_of_lt_of_le (by simp) g.h.size)).trans ((g.cell (by simp)).trans (by simp [go_sem]))) (((hm.grow grows_bx hW).grow grows_bx g.h).grow grows_bx g'.h) hM hr hi hj)
  obtain ⟨pm, cm, rfl⟩ := hm.shape hM
  have C0 := Lib.hid c0
  have C1 := Lib.hid c1
  clear c0 c1 hm hr hM
  go_enter Try.func20, Try.ntmps20
  go_wp2_with (fail)
  refine C0.out.mono ?_
  rintro e w1 ⟨rfl, hB1⟩
  have f0 := (hB1.cell (p := ⟨w.heap.size, 0, none⟩) (by simp)).trans (show (w.alloc (.cells #[.slice pm n cm] 34)).cell? ⟨w.heap.size, 0, none⟩ = some (.slice pm n cm) by simp [go_sem])
  go_wp2_with (fail)
  refine (C1.out ⟨w1, hB1⟩).mono ?_
  rintro e w2 ⟨u, rfl, hu, hB2⟩
  go_wp2_with (fail)
  go_ret
  exact ⟨_, rfl, hu, below_then (hW.trans (hB1.mono (by simp))) hB2⟩
end Go.Proofs.Ytmcdkbnpcmiojaa

namespace Go.Proofs.Ytmcdkbnpcmiojaa
open Go.ChangeShapes Go.WideShapes Go.ChangeAt Go.RowKit
set_option linter.unusedVariables false
set_option linter.unusedSimpArgs false
set_option maxRecDepth 100000

attribute [local irreducible] Calls
def Sq (n : Nat) (M : List (List (Int × Int))) : Prop := M.length = n ∧ ∀ r ∈ M, r.length = n ∧ ∀ p ∈ r, VB p
def mulM (M T : List (List (Int × Int))) : List (List (Int × Int)) := M.map fun r => T.map fun c => dotI (r.zip c)
set_option maxHeartbeats 2000000 in
theorem mx_mul1 (X : Nat) (u vt : Value) (r : List (Int × Int)) (T : List (List (Int × Int))) (n : Nat) (w : World) (hX : X < w.heap.size) (hc : w.cell? ⟨X, 0, none⟩ = some vt) (hu : Bx w u r) (ht : Mx w vt T) (hT : Sq n T) (hn : n ≤ 1000) (hr : r.length = n) (hV : ∀ p ∈ r, VB p) :
    Calls Try.prog 46 #[u, .pointer (some ⟨X, 0, none⟩)] w fun e w' => ∃ v, e = .returned v ∧ Bx w' v (T.map fun c => dotI (r.zip c)) ∧ Below w.heap.size w w' := by
  have hW : Below w.heap.size w (w.alloc (.cells #[u] 40)) := (Below.refl _ _).alloc (Nat.le_refl _) _
  have c1 := mx_iv 47 (.pointer (some ⟨w.heap.size, 0, none⟩)) vt T (fun c => dotI (r.zip c)) (w.alloc (.cells #[u] 40)) (ht.grow grows_bx hW) (by rw [hT.1]; exact hn) (fun args w => by simp [go_sem])
    (fun c v g hcm hv => mx_mul11 w.heap.size v u c r n g.w (Nat.lt_of_lt_of_le (by simp) g.h.size) ((g.cell (by simp)).trans (by simp [go_sem])) hv ((hu.grow hW).grow g.h) (hT.2 c hcm).1 hr (hT.2 c hcm).2 hV)
  have hcX := (hW.cell (p := ⟨X, 0, none⟩) hX).trans hc
  obtain ⟨pu, cu, rfl⟩ := hu.cut
  obtain ⟨pt, ct, rfl⟩ := ht.cut
  have C1 := Lib.hid c1
  clear c1 hu ht hT hr hV hc
  go_enter Try.func46, Try.ntmps46
  go_wp2_with (fail)
  refine C1.out.mono ?_
  rintro e w1 ⟨v, rfl, hv, hB1⟩
  go_wp2_with (fail)
  go_ret
  exact ⟨_, rfl, hv, hW.trans (hB1.mono (by simp))⟩
theorem mem_matOf {F : Nat → Nat → Int × Int} {n : Nat} {r : List (Int × Int)} (h : r ∈ matOf F n) : ∃ i, i < n ∧ r = rowOf F n i := by
  obtain ⟨i, hi, rfl⟩ := List.mem_map.1 h
  exact ⟨i, List.mem_range.1 hi, rfl⟩
theorem sqm_tr {M : List (List (Int × Int))} {n : Nat} (h : Sq n M) : Sq n (matOf (trF (0, 0) M) n) := by
  refine ⟨by simp [matOf], fun r hr => ?_⟩
  obtain ⟨i, hi, rfl⟩ := mem_matOf hr
  refine ⟨by simp [rowOf], fun p hp => ?_⟩
  obtain ⟨j, hj, rfl⟩ := List.mem_map.1 hp
  have hjn := List.mem_range.1 hj
  have hjl : j < M.length := by rw [h.1]; exact hjn
  have hm := List.getElem_mem hjl
  have hil : i < M[j].length := by rw [(h.2 _ hm).1]; exact hi
  rw [trF_at (List.getElem?_eq_getElem hjl) (List.getElem?_eq_getElem hil)]
  exact (h.2 _ hm).2 _ (List.getElem_mem hil)
theorem sqm_mul {M T : List (List (Int × Int))} {n : Nat} (h : Sq n M) (k : Sq n T) : Sq n (mulM M T) := by
  refine ⟨by simp [mulM, h.1], fun r hr => ?_⟩
  obtain ⟨s, hs, rfl⟩ := List.mem_map.1 hr
  refine ⟨by simp [k.1], fun p hp => ?_⟩
  obtain ⟨c, hc, rfl⟩ := List.mem_map.1 hp
  exact dotI_vb _
set_option maxHeartbeats 2000000 in
theorem mx_mul (va vb : Value) (M N : List (List (Int × Int))) (n : Nat) (w : World) (ha : Mx w va M) (hb : Mx w vb N) (hM : Sq n M) (hN : Sq n N) (h1 : 1 ≤ n) (h6 : n ≤ 6) :
    Calls Try.prog 19 #[va, vb] w fun e w' => ∃ u, e = .returned u ∧ Mx w' u (mulM M (matOf (trF (0, 0) N) n)) ∧ Below w.heap.size w w' := by
  have c0 := mx_transpose vb N n w hb hN.1 (fun r hr => (hN.2 r hr).1) h1 h6
  have hT := sqm_tr hN
  have hA := fun (w' : World) (hB : Below w.heap.size w w') => ha.grow grows_bx hB
  obtain ⟨pa, ca, rfl⟩ := ha.cut
  obtain ⟨pb, cb, rfl⟩ := hb.cut
  generalize matOf (trF (0, 0) N) n = T at *
  have C0 := Lib.hid c0
  have HA := Lib.hid hA
  have HT := Lib.hid hT
  have HM := Lib.hid hM
  clear c0 ha hb hA hT hM hN
  go_enter Try.func19, Try.ntmps19
  go_wp2_with (fail)
  refine C0.out.mono ?_
  rintro e w1 ⟨vt, rfl, ht, hB1⟩
  have hW : Below w1.heap.size w1 (w1.alloc (.cells #[vt] 34)) := (Below.refl _ _).alloc (Nat.le_refl _) _
  have hMl : M.length ≤ 1000 := by rw [HM.out.1]; omega
  have c1 := mx_row 46 (.pointer (some ⟨w1.heap.size, 0, none⟩)) _ M (fun r => T.map fun c => dotI (r.zip c)) (w1.alloc (.cells #[vt] 34)) ((HA.out w1 hB1).grow grows_bx hW) hMl (fun args w => by simp [go_sem])
    (fun r u g hrm hu => mx_mul1 w1.heap.size u vt r T n g.w (Nat.lt_of_lt_of_le (by simp) g.h.size) ((g.cell (by simp)).trans (by simp [go_sem])) hu ((ht.grow grows_bx hW).grow grows_bx g.h) HT.out (by omega) (HM.out.2 r hrm).1 (HM.out.2 r hrm).2)
  obtain ⟨pt, ct, rfl⟩ := ht.cut
  have C1 := Lib.hid c1
  clear c1 ht hMl
  go_wp2_with (fail)
  refine C1.out.mono ?_
  rintro e w2 ⟨u, rfl, hu, hB2⟩
  go_wp2_with (fail)
  go_ret
  exact ⟨_, rfl, hu, below_then hB1 (hW.trans (hB2.mono (by simp)))⟩
end Go.Proofs.Ytmcdkbnpcmiojaa
