/-
  Oe IsoMath Jb Jc Sa
-/
import Derived.Test.YteibdnjjfjplpaaKal
import Derived.Test.YteibdnjjfjplpaaKam
import Derived.Laws.OwnMore
import Derived.Maps.AppendAt
namespace Go.Proofs.Yteibdnjjfjplpaa
open Go.ChangeShapes Go.WideShapes Go.ChangeAt Go.RowKit
set_option linter.unusedVariables false
set_option linter.unusedSimpArgs false
/-- The value of an expression. -/
def evT (X : List (Int × Int)) (t : Int × Int) : Ex → Int × Int
  | .e0 x => if x.op = 1 then (x.lo, x.hi) else if x.op = 2 then X.getD x.n.toNat (0, 0) else t
  | .e1 x a => opI x.op (evT X t a) (evT X t a)
  | .e2 x a b => opI x.op (evT X t a) (evT X t b)
theorem evT_one (X : List (Int × Int)) (t : Int × Int) (x : Nd) (a : Ex) : evT X t (.e1 x a) = opI x.op (evT X t a) (evT X t a) := by rw [evT]
theorem evT_two (X : List (Int × Int)) (t : Int × Int) (x : Nd) (a b : Ex) : evT X t (.e2 x a b) = opI x.op (evT X t a) (evT X t b) := by rw [evT]
theorem opI_six (p q : Int × Int) : opI 6 p q = rtI p := by
  unfold opI
  rw [if_neg (by decide), if_neg (by decide), if_pos rfl]
theorem ar0_op {N : Int} {x : Nd} (h0 : arI x.op = 0) (h : vnB N x = true) : x.op = 1 ∨ x.op = 2 ∨ x.op = 3 := by
  unfold vnB at h
  by_cases h1 : x.op = 1
  · exact .inl h1
  rw [if_neg h1] at h
  by_cases h2 : x.op = 2
  · exact .inr (.inl h2)
  rw [if_neg h2] at h
  by_cases h3 : 3 ≤ x.op ∧ x.op ≤ 10
  · refine .inr (.inr ?_)
    unfold arI at h0
    split at h0
    · omega
    split at h0
    · omega
    omega
  · rw [if_neg h3] at h
    cases h
theorem evT_vi {X : List (Int × Int)} {t : Int × Int} {N : Int} (hX : ∀ p ∈ X, VI p.1 p.2) (ht : VI t.1 t.2) : ∀ {e : Ex}, EV N e → VI (evT X t e).1 (evT X t e).2
  | .e0 x, he => by
    unfold evT
    split
    · next h =>
      have := he.2
      unfold vnB at this
      rw [if_pos h] at this
      simp only [Bool.and_eq_true, decide_eq_true_eq] at this
      exact this.2
    split
    · rw [List.getD_eq_getElem?_getD]
      cases e : X[x.n.toNat]? with
      | none => exact .inr (by decide)
      | some p => exact hX p (List.mem_of_getElem? e)
    · exact ht
  | .e1 x a, he => opI_vi _ (evT_vi hX ht he.2) (evT_vi hX ht he.2)
  | .e2 x a b, he => opI_vi _ (evT_vi hX ht he.2.1) (evT_vi hX ht he.2.2)
end Go.Proofs.Yteibdnjjfjplpaa
namespace Go.Proofs.Yteibdnjjfjplpaa
set_option linter.unusedVariables false
set_option linter.unusedSimpArgs false
set_option maxRecDepth 100000
/-- Nested: [a, b] in [i, j]. -/
def Sb (a b i j : Int) : Prop := i ≤ a ∧ b ≤ j
end Go.Proofs.Yteibdnjjfjplpaa
namespace Go.Proofs.Yteibdnjjfjplpaa
set_option linter.unusedVariables false
set_option linter.unusedSimpArgs false
set_option maxRecDepth 100000
theorem opI_7 (p q : Int × Int) : opI 7 p q = (addLo p.1 p.2 q.1 q.2, addHi p.1 p.2 q.1 q.2) := by unfold opI; rw [if_neg (by decide), if_neg (by decide), if_neg (by decide), if_pos rfl]
theorem opI_8 (p q : Int × Int) : opI 8 p q = (addLo p.1 p.2 (-q.2) (-q.1), addHi p.1 p.2 (-q.2) (-q.1)) := by unfold opI; rw [if_neg (by decide), if_neg (by decide), if_neg (by decide), if_neg (by decide), if_pos rfl]
theorem opI_9 (p q : Int × Int) : opI 9 p q = (mulLo p.1 p.2 q.1 q.2, mulHi p.1 p.2 q.1 q.2) := by unfold opI; rw [if_neg (by decide), if_neg (by decide), if_neg (by decide), if_neg (by decide), if_neg (by decide), if_pos rfl]
end Go.Proofs.Yteibdnjjfjplpaa
namespace Go.Proofs.Yteibdnjjfjplpaa
open Go.ChangeShapes Go.WideShapes Go.ChangeAt Go.RowKit
set_option linter.unusedVariables false
set_option linter.unusedSimpArgs false
set_option maxRecDepth 100000
attribute [local irreducible] Calls
/-- A term's block: its root and its operands. -/
def TmC (W : World) (b : Nat) (x : Nd) (S : Value) : Prop := W.heap[b]? = some (.cells #[.int .i64 x.op, .int .i64 x.n, .int .i64 x.lo, .int .i64 x.hi, S] 87 (0, 0))
section
variable {W W' : World} {b : Nat} {x : Nd} {S : Value}
theorem TmC.lt (h : TmC W b x S) : b < W.heap.size := (Array.getElem?_eq_some_iff.1 h).1
theorem TmC.c0 (h : TmC W b x S) : W.cell? ⟨b, 0, none⟩ = some (.int .i64 x.op) := by simp [World.cell?, show W.heap[b]? = _ from h]
theorem TmC.c1 (h : TmC W b x S) : W.cell? ⟨b, 1, none⟩ = some (.int .i64 x.n) := by simp [World.cell?, show W.heap[b]? = _ from h]
theorem TmC.c2 (h : TmC W b x S) : W.cell? ⟨b, 2, none⟩ = some (.int .i64 x.lo) := by simp [World.cell?, show W.heap[b]? = _ from h]
theorem TmC.c3 (h : TmC W b x S) : W.cell? ⟨b, 3, none⟩ = some (.int .i64 x.hi) := by simp [World.cell?, show W.heap[b]? = _ from h]
theorem TmC.c4 (h : TmC W b x S) : W.cell? ⟨b, 4, none⟩ = some S := by simp [World.cell?, show W.heap[b]? = _ from h]
theorem TmC.grow (h : TmC W b x S) (hB : Below W.heap.size W W') : TmC W' b x S := (hB.block b h.lt).trans h
theorem TmC.new (W : World) (x : Nd) (S : Value) : TmC (W.alloc (.cells #[.int .i64 x.op, .int .i64 x.n, .int .i64 x.lo, .int .i64 x.hi, S] 87)) W.heap.size x S := World.alloc_heap_new W _
end
variable {Fz : Nat}
/-- The pointer v leads to the term T, whose blocks lie from Fz on. -/
def TmP (Fz : Nat) (w : World) : Value → Ex → Prop
  | v, .e0 x => ∃ b p c, v = .pointer (some ⟨b, 0, none⟩) ∧ TmC w b x (.slice p 0 c) ∧ Fz ≤ b
  | v, .e1 x a => ∃ b r o c u, v = .pointer (some ⟨b, 0, none⟩) ∧ TmC w b x (.slice (some ⟨r, o, none⟩) 1 c) ∧ w.cell? ⟨r, o, none⟩ = some u ∧ TmP Fz w u a ∧ Fz ≤ b ∧ Fz ≤ r
  | v, .e2 x a a' => ∃ b r o c u u', v = .pointer (some ⟨b, 0, none⟩) ∧ TmC w b x (.slice (some ⟨r, o, none⟩) 2 c) ∧ w.cell? ⟨r, o, none⟩ = some u ∧ w.cell? ⟨r, o + 1, none⟩ = some u' ∧ TmP Fz w u a ∧ TmP Fz w u' a' ∧ Fz ≤ b ∧ Fz ≤ r
theorem cell_lt {w : World} {b o : Nat} {u : Value} (h : w.cell? ⟨b, o, none⟩ = some u) : b < w.heap.size := by
  unfold World.cell? at h
  cases hb : w.heap[b]? with
  | none => simp [hb] at h
  | some x => exact (Array.getElem?_eq_some_iff.1 hb).1
theorem cell_grow {w w' : World} {b o : Nat} {u : Value} (h : w.cell? ⟨b, o, none⟩ = some u) (hb : Below w.heap.size w w') : w'.cell? ⟨b, o, none⟩ = some u := (hb.cell (p := ⟨b, o, none⟩) (cell_lt h)).trans h
theorem TmP.grow {w w' : World} (hb : Below w.heap.size w w') : ∀ {T : Ex} {v : Value}, TmP Fz w v T → TmP Fz w' v T
  | .e0 x, v, h => by
    obtain ⟨b, p, c, e, h1, hf⟩ := h
    exact ⟨b, p, c, e, h1.grow hb, hf⟩
  | .e1 x a, v, h => by
    obtain ⟨b, r, o, c, u, e, h1, h2, h3, hf⟩ := h
    exact ⟨b, r, o, c, u, e, h1.grow hb, cell_grow h2 hb, h3.grow hb, hf⟩
  | .e2 x a a', v, h => by
    obtain ⟨b, r, o, c, u, u', e, h1, h2, h2', h3, h3', hf⟩ := h
    exact ⟨b, r, o, c, u, u', e, h1.grow hb, cell_grow h2 hb, cell_grow h2' hb, h3.grow hb, h3'.grow hb, hf⟩
theorem TmP.root {w : World} : ∀ {T : Ex} {v : Value}, TmP Fz w v T → ∃ b S, v = .pointer (some ⟨b, 0, none⟩) ∧ TmC w b (rtN T) S
  | .e0 x, v, ⟨b, p, c, e, h1, _⟩ => ⟨b, _, e, h1⟩
  | .e1 x a, v, ⟨b, r, o, c, u, e, h1, _⟩ => ⟨b, _, e, h1⟩
  | .e2 x a a', v, ⟨b, r, o, c, u, u', e, h1, _⟩ => ⟨b, _, e, h1⟩
theorem TmP.fz {w : World} : ∀ {T : Ex} {v : Value}, TmP Fz w v T → Fz ≤ w.heap.size
  | .e0 x, v, ⟨b, p, c, e, h1, hf⟩ => by have := h1.lt; omega
  | .e1 x a, v, ⟨b, r, o, c, u, e, h1, _, _, hf, _⟩ => by have := h1.lt; omega
  | .e2 x a a', v, ⟨b, r, o, c, u, u', e, h1, _, _, _, _, hf, _⟩ => by have := h1.lt; omega
theorem TmP.low {F : Nat} (hF : F ≤ Fz) {w : World} : ∀ {T : Ex} {v : Value}, TmP Fz w v T → TmP F w v T
  | .e0 x, v, ⟨b, p, c, e, h1, hf⟩ => ⟨b, p, c, e, h1, by omega⟩
  | .e1 x a, v, ⟨b, r, o, c, u, e, h1, h2, h3, hf, hf'⟩ => ⟨b, r, o, c, u, e, h1, h2, h3.low hF, by omega, by omega⟩
  | .e2 x a a', v, ⟨b, r, o, c, u, u', e, h1, h2, h2', h3, h3', hf, hf'⟩ => ⟨b, r, o, c, u, u', e, h1, h2, h2', h3.low hF, h3'.low hF, by omega, by omega⟩
/-- A store to a block below Fz, a row that grows there. -/
theorem TmP.keep {w w' : World} {row : Option Nat} (hg : w.grownBy w' row) (hr : ∀ k, row = some k → k < Fz) : ∀ {T : Ex} {v : Value}, TmP Fz w v T → TmP Fz w' v T := by
  have hb : ∀ {b : Nat} {x : Nd} {S : Value}, TmC w b x S → Fz ≤ b → TmC w' b x S := fun h hf => (hg.block _ h.lt (fun e => by have := hr _ e.symm; omega)).trans h
  have hc : ∀ {b o : Nat} {u : Value}, w.cell? ⟨b, o, none⟩ = some u → Fz ≤ b → w'.cell? ⟨b, o, none⟩ = some u := fun h hf => (World.cell?_of_block (a := ⟨_, _, none⟩) (hg.block _ (cell_lt h) (fun e => by have := hr _ e.symm; dsimp only at this; omega))).trans h
  intro T
  induction T with
  | e0 x => exact fun ⟨b, p, c, e, h1, hf⟩ => ⟨b, p, c, e, hb h1 hf, hf⟩
  | e1 x a ih => exact fun ⟨b, r, o, c, u, e, h1, h2, h3, hf, hf'⟩ => ⟨b, r, o, c, u, e, hb h1 hf, hc h2 hf', ih h3, hf, hf'⟩
  | e2 x a a' ih ih' => exact fun ⟨b, r, o, c, u, u', e, h1, h2, h2', h3, h3', hf, hf'⟩ => ⟨b, r, o, c, u, u', e, hb h1 hf, hc h2 hf', hc h2' hf', ih h3, ih' h3', hf, hf'⟩
theorem grows_tm : Grows (TmP Fz) := fun _ _ _ _ h hb => h.grow hb
/-- Operands in memory. -/
abbrev TmS (Fz : Nat) := Lx (TmP Fz)
theorem number_ok (c : Int) (w : World) (hc : Num c) (hF : Fz ≤ w.heap.size) : Calls Try.prog 31 #[.int .i64 c] w fun e w' => ∃ v, e = .returned v ∧ TmP Fz w' v (pt c) ∧ Below w.heap.size w w' := by
  have K := iv_point c w
  rw [show mkLo c c = c by unfold mkLo; rw [if_pos ⟨hc, hc⟩], show mkHi c c = c by unfold mkHi; rw [if_pos ⟨hc, hc⟩]] at K
  have K := Lib.hid K
  clear hc
  go_enter Try.func31, Try.ntmps31
  go_wp2_with (fail)
  refine K.out.mono ?_
  rintro e w1 ⟨rfl, hB⟩
  go_wp2_with (fail)
  go_ret
  exact ⟨_, rfl, ⟨_, none, 0, rfl, TmC.new w1 ⟨1, 0, c, c⟩ (.slice none 0 0), Nat.le_trans hF hB.size⟩, hB.alloc hB.size _⟩
theorem ispt_ok (v : Value) (T : Ex) (w : World) (h : TmP Fz w v T) : Calls Try.prog 95 #[v] w fun e w' => e = .returned (.bool (isPt T)) ∧ Below w.heap.size w w' := by
  obtain ⟨b, S, rfl, hc⟩ := h.root
  clear h
  have x0 := hc.c0
  have x2 := hc.c2
  have x3 := hc.c3
  unfold isPt
  generalize rtN T = x at *
  obtain ⟨op, n, lo, hi⟩ := x
  dsimp only at x0 x2 x3 ⊢
  clear hc
  by_cases h1 : op = 1
  · subst h1
    by_cases h2 : lo = hi
    · subst h2
      go_enter Try.func95, Try.ntmps95
      go_wp2_with (fail)
      go_quiet (fail)
      go_wp2_with (fail)
      go_ret
      exact ⟨by simp, below_drewN (Below.refl _ _) _⟩
    · have q : (lo == hi) = false := by simpa using h2
      go_enter Try.func95, Try.ntmps95
      go_wp2_with (fail)
      go_quiet (fail)
      go_wp2_with (fail)
      go_ret
      exact ⟨by simp [h2], below_drewN (Below.refl _ _) _⟩
  · have q : (op == 1) = false := by simpa using h1
    go_enter Try.func95, Try.ntmps95
    go_wp2_with (fail)
    go_quiet (fail)
    go_wp2_with (fail)
    go_ret
    exact ⟨by simp [h1], below_drewN (Below.refl _ _) _⟩
theorem isc_ok (c : Int) (v : Value) (T : Ex) (w : World) (h : TmP Fz w v T) : Calls Try.prog 77 #[v, .int .i64 c] w fun e w' => e = .returned (.bool (isC c T)) ∧ Below w.heap.size w w' := by
  have K := Lib.hid (ispt_ok v T w h)
  have H := Lib.hid h
  obtain ⟨b, S, rfl, hc⟩ := h.root
  clear h
  unfold isC
  generalize hq : isPt T = q at *
  clear hq hc
  generalize hlo : (rtN T).lo = lo
  have HL := Lib.hid hlo
  clear hlo
  go_enter Try.func77, Try.ntmps77
  go_wp2_with (fail)
  refine K.out.mono ?_
  rintro e w1 ⟨rfl, hB⟩
  obtain ⟨b', S', eb, hc⟩ := (H.out.grow hB).root
  cases eb
  have x2 := hc.c2
  rw [HL.out] at x2
  clear hc HL
  have HB := Lib.hid hB
  clear hB K H
  cases q
  · go_wp2_with (fail)
    go_ret
    exact ⟨by simp, HB.out⟩
  · by_cases h2 : lo = c
    · subst h2
      go_wp2_with (fail)
      go_ret
      exact ⟨by simp, HB.out⟩
    · have q : (lo == c) = false := by simpa using h2
      go_wp2_with (fail)
      go_ret
      exact ⟨by simp [h2], HB.out⟩
/-- A term or nil. -/
def TmO (Fz : Nat) (w : World) (v : Value) : Option Ex → Prop
  | none => v = .pointer none
  | some T => TmP Fz w v T
theorem rneg_ok (N : Int) (v : Value) (T : Ex) (w : World) (h : TmP Fz w v T) (he : EV N T) : Calls Try.prog 76 #[v] w fun e w' => ∃ u, e = .returned u ∧ TmO Fz w' u (negR T) ∧ Below w.heap.size w w' := by
  have K := Lib.hid (ispt_ok v T w h)
  have H := Lib.hid h
  have hF := h.fz
  unfold negR
  obtain ⟨b, S0, rfl, _⟩ := h.root
  clear h
  cases hp : isPt T with
  | true =>
    rw [hp] at K
    obtain ⟨_, hn⟩ := isPt_pt he hp
    have hn1 : -2147483648 < (rtN T).lo := hn.1
    have hn2 : (rtN T).lo < 2147483648 := hn.2
    have KN := Lib.hid (fun (w1 : World) (hB : Below w.heap.size w w1) => number_ok (Fz := Fz) (-(rtN T).lo) w1 (by unfold Num at *; omega) (Nat.le_trans hF hB.size))
    rw [if_pos rfl]
    clear hn hp he
    generalize hlo : (rtN T).lo = lo at *
    have HL := Lib.hid hlo
    clear hlo
    go_enter Try.func76, Try.ntmps76
    go_wp2_with (fail)
    refine K.out.mono ?_
    rintro e w1 ⟨rfl, hB⟩
    obtain ⟨b', S', eb, hc⟩ := (H.out.grow hB).root
    cases eb
    have x2 := hc.c2
    rw [HL.out] at x2
    have HB := Lib.hid hB
    clear hc H hB HL
    go_wp2_with (fail)
    refine (KN.out _ HB.out).mono ?_
    rintro e w2 ⟨u, rfl, hu, hB2⟩
    have HU := Lib.hid hu
    have HB2 := Lib.hid (below_then HB.out hB2)
    clear hu hB2
    go_wp2_with (fail)
    go_ret
    exact ⟨_, rfl, HU.out, HB2.out⟩
  | false =>
    rw [hp] at K
    rw [if_neg (by decide)]
    by_cases h4 : (rtN T).op = 4
    · obtain ⟨x, a, rfl, hx, ha⟩ := op4_arg he h4
      rw [if_pos h4]
      clear h4 he hp ha
      go_enter Try.func76, Try.ntmps76
      go_wp2_with (fail)
      refine K.out.mono ?_
      rintro e w1 ⟨rfl, hB⟩
      obtain ⟨b', r, o, c, u, eb, h1, h2, h3, _⟩ := H.out.grow hB
      cases eb
      have x0 := h1.c0
      have x4 := h1.c4
      rw [hx] at x0
      have H3 := Lib.hid h3
      have HB := Lib.hid hB
      clear h1 h3 H hx hB
      go_wp2_with (fail)
      go_ret
      exact ⟨_, rfl, H3.out, HB.out⟩
    · rw [if_neg h4]
      have q : ((rtN T).op == 4) = false := by simpa using h4
      clear h4 he hp
      go_enter Try.func76, Try.ntmps76
      go_wp2_with (fail)
      refine K.out.mono ?_
      rintro e w1 ⟨rfl, hB⟩
      obtain ⟨b', S', eb, hc⟩ := (H.out.grow hB).root
      cases eb
      have x0 := hc.c0
      have HB := Lib.hid hB
      clear hc H hB
      generalize (rtN T).op = op at *
      go_wp2_with (fail)
      go_ret
      exact ⟨_, rfl, rfl, HB.out⟩
end Go.Proofs.Yteibdnjjfjplpaa
namespace Go.Proofs.Yteibdnjjfjplpaa
open Go.ChangeShapes Go.WideShapes Go.ChangeAt Go.RowKit
set_option linter.unusedVariables false
set_option linter.unusedSimpArgs false
set_option maxRecDepth 100000
theorem vi_1 : VI (65536 : Int) 65536 := .inr ⟨by unfold Num; omega, by unfold Num; omega, Int.le_refl _⟩
section
variable {α : Type} {enc : α → List Value} {sz : Nat} {t ts : TypeId}
theorem ot_grown {W W' : World} (h : Below W.heap.size W W') : W.grownBy W' none := ⟨h.os, h.tape, h.output, h.size, fun k hk _ => h.block k hk⟩
theorem ot_kept {W W' : World} {B n size : Nat} {e : TypeId} {v : Value} {xs : List Value} (h : W.ownsRow B e size v n xs) (hB : Below W.heap.size W W') : W'.ownsRow B e size v n xs := h.kept (ot_grown hB) (by cases v.ownBlock <;> simp)
theorem ot_ne {W : World} {B B' n n' size size' : Nat} {e e' : TypeId} {v v' : Value} {xs xs' : List Value} (ht : e ≠ e') (h : W.ownsRow B e size v n xs) (h' : W.ownsRow B' e' size' v' n' xs') : v.ownBlock = none ∨ v.ownBlock ≠ v'.ownBlock := by
  rcases h.2 with ⟨rfl, _⟩ | ⟨g, cap, cur, rfl, _, hg, _⟩
  · exact .inl rfl
  · refine .inr fun e1 => ?_
    rcases h'.2 with ⟨rfl, _⟩ | ⟨g', cap', cur', rfl, _, hg', _⟩
    · simp [Value.ownBlock] at e1
    · simp only [Value.ownBlock, Option.some.injEq] at e1
      subst e1
      rw [hg] at hg'
      simp only [Option.some.injEq, Obj.cells.injEq] at hg'
      exact ht hg'.2.1
/-- Rows that a call itself made, in a table that it itself made. -/
structure OwT (enc : α → List Value) (sz : Nat) (t ts : TypeId) (B : Nat) (W : World) (v : Value) (rows : List (List α)) (us : List Value) : Prop where
  out : W.ownsRow B ts 1 v rows.length us
  row : ∀ (i : Nat) (r : List α), rows[i]? = some r → ∃ u, us[i]? = some u ∧ W.ownsRow B t sz u r.length (cr enc r)
  far : ∀ (i j : Nat) (u x : Value), us[i]? = some u → us[j]? = some x → i ≠ j → u.ownBlock = none ∨ u.ownBlock ≠ x.ownBlock
theorem OwT.grow {B : Nat} {W W' : World} {v : Value} {rows : List (List α)} {us : List Value} (h : OwT enc sz t ts B W v rows us) (hB : Below W.heap.size W W') : OwT enc sz t ts B W' v rows us :=
  ⟨ot_kept h.out hB, fun i r hr => by
    obtain ⟨u, h1, h2⟩ := h.row i r hr
    exact ⟨u, h1, ot_kept h2 hB⟩, h.far⟩
theorem OwT.base {B B' : Nat} {W : World} {v : Value} {rows : List (List α)} {us : List Value} (h : OwT enc sz t ts B W v rows us) (hB : B' ≤ B) : OwT enc sz t ts B' W v rows us := by
  have key : ∀ {e : TypeId} {size n : Nat} {u : Value} {xs : List Value}, W.ownsRow B e size u n xs → W.ownsRow B' e size u n xs := fun h => ⟨h.1, h.2.imp id fun ⟨g, c, cur, e1, hb, r⟩ => ⟨g, c, cur, e1, Nat.le_trans hB hb, r⟩⟩
  exact ⟨key h.out, fun i r hr => by
    obtain ⟨u, h1, h2⟩ := h.row i r hr
    exact ⟨u, h1, key h2⟩, h.far⟩
theorem OwT.lx (hsz : ∀ x, (enc x).length = sz) {B : Nat} {W : World} {v : Value} {rows : List (List α)} {us : List Value} (h : OwT enc sz t ts B W v rows us) (hl : rows.length ≤ maxLen) (hr : ∀ r ∈ rows, r.length ≤ maxLen) : Lx (Rx enc sz) W v rows := by
  refine ⟨hl, ?_⟩
  rcases h.out.2 with ⟨rfl, e⟩ | ⟨g, cap, cur, rfl, hb, hg, _⟩
  · refine ⟨none, 0, by rw [e], fun k x hx => ?_⟩
    have := (List.getElem?_eq_some_iff.1 hx).1
    omega
  · refine ⟨some ⟨g, 0, none⟩, cap, rfl, fun k x hx => ?_⟩
    obtain ⟨u, h1, h2⟩ := h.row k x hx
    have hk := (List.getElem?_eq_some_iff.1 hx).1
    refine ⟨g, 0, u, rfl, (Array.getElem?_eq_some_iff.1 hg).1, ?_, Rx.own hsz h2 (hr x (List.mem_of_getElem? hx))⟩
    rw [Nat.zero_add, h.out.cellAt k (by omega)]
    exact h1
/-- A row grew and its place in the table was written. -/
theorem OwT.push (hts : t ≠ ts) {B : Nat} {W W' : World} {O c : Nat} {rows : List (List α)} {us : List Value} (h : OwT enc sz t ts B W (.slice (some ⟨O, 0, none⟩) rows.length c) rows us) {i : Nat} {r : List α} {x : α} {u u' : Value} (hr : rows[i]? = some r) (hu : us[i]? = some u)
    (ho : W'.ownsRow B t sz u' (r.length + 1) (cr enc r ++ enc x)) (hg : W.grownBy W' u.ownBlock) (hat : u'.ownBlock = u.ownBlock ∨ u'.ownBlock = some W.heap.size) :
    OwT enc sz t ts B (W'.setCell ⟨O, i, none⟩ u') (.slice (some ⟨O, 0, none⟩) rows.length c) (rows.set i (r ++ [x])) (us.set i u') := by
  have hi := (List.getElem?_eq_some_iff.1 hr).1
  obtain ⟨u0, e0, hrow⟩ := h.row i r hr
  rw [hu] at e0
  obtain rfl := Option.some.inj e0
  have hOne : (Value.slice (some ⟨O, 0, none⟩) rows.length c).ownBlock = none ∨ (Value.slice (some ⟨O, 0, none⟩) rows.length c).ownBlock ≠ u.ownBlock := ot_ne (fun e => hts e.symm) h.out hrow
  have hout := h.out.kept hg hOne
  have st := hout.stored i u'
  have hne : ∀ (y : Value) (n : Nat) (xs : List Value), W'.ownsRow B t sz y n xs → y.ownBlock = none ∨ y.ownBlock ≠ some O := fun y n xs hy => ot_ne hts hy hout
  refine ⟨by rw [List.length_set]; exact st.1, fun j s hs => ?_, fun j k y z hy hz hjk => ?_⟩
  · by_cases e : j = i
    · subst e
      rw [List.getElem?_set_self hi] at hs
      obtain rfl := Option.some.inj hs
      have hj : j < us.length := by have := (List.getElem?_eq_some_iff.1 hu).1; exact this
      refine ⟨u', List.getElem?_set_self hj, ?_⟩
      have := ho.kept st.2 (hne _ _ _ ho)
      rw [List.length_append, List.length_singleton, cr_snoc]
      exact this
    · rw [List.getElem?_set_ne (fun q => e q.symm)] at hs
      obtain ⟨y, h1, h2⟩ := h.row j s hs
      refine ⟨y, by rw [List.getElem?_set_ne (fun q => e q.symm)]; exact h1, ?_⟩
      have h3 := h2.kept hg (h.far j i y u h1 hu e)
      exact h3.kept st.2 (hne _ _ _ h3)
  · have hil : i < us.length := (List.getElem?_eq_some_iff.1 hu).1
    have lt : ∀ (k : Nat) (y : Value), us[k]? = some y → k < rows.length → ∀ b, y.ownBlock = some b → b < W.heap.size := fun k y hk hl b hb => by
      obtain ⟨r', hr'⟩ : ∃ r', rows[k]? = some r' := ⟨_, List.getElem?_eq_getElem hl⟩
      obtain ⟨y', h1, h2⟩ := h.row k r' hr'
      rw [hk] at h1
      obtain rfl := Option.some.inj h1
      exact (h2.lt b hb).2
    have hlen : us.length = rows.length := by have := h.out.1; simpa using this
    by_cases ej : j = i
    · subst ej
      rw [List.getElem?_set_self hil] at hy
      obtain rfl := Option.some.inj hy
      rw [List.getElem?_set_ne (fun q => hjk q)] at hz
      rcases hat with e | e
      · rw [e]; exact h.far j k u z hu hz hjk
      · rw [e]
        refine .inr fun e2 => ?_
        have hk := (List.getElem?_eq_some_iff.1 hz).1
        have := lt k z hz (by omega) _ e2.symm
        omega
    · rw [List.getElem?_set_ne (fun q => ej q.symm)] at hy
      by_cases ek : k = i
      · subst ek
        rw [List.getElem?_set_self hil] at hz
        obtain rfl := Option.some.inj hz
        rcases hat with e | e
        · rw [e]; exact h.far j k y u hy hu hjk
        · rw [e]
          refine .inr fun e2 => ?_
          have hk := (List.getElem?_eq_some_iff.1 hy).1
          have := lt j y hy (by omega) _ e2
          omega
      · rw [List.getElem?_set_ne (fun q => ek q.symm)] at hz
        exact h.far j k y z hy hz hjk
/-- A new row at the end of the table: the table was appended to. -/
theorem OwT.snoc (hts : t ≠ ts) {B : Nat} {W W' : World} {v v' u : Value} {rows : List (List α)} {us : List Value} {r : List α} (h : OwT enc sz t ts B W v rows us) (hu : W.ownsRow B t sz u r.length (cr enc r)) (hfar : ∀ y ∈ us, y.ownBlock = none ∨ y.ownBlock ≠ u.ownBlock)
    (ho : W'.ownsRow B ts 1 v' (rows.length + 1) (us ++ [u])) (hg : W.grownBy W' v.ownBlock) :
    OwT enc sz t ts B W' v' (rows ++ [r]) (us ++ [u]) := by
  have hlen : us.length = rows.length := by have := h.out.1; simpa using this
  have ne : ∀ (y : Value) (n : Nat) (xs : List Value), W.ownsRow B t sz y n xs → y.ownBlock = none ∨ y.ownBlock ≠ v.ownBlock := fun y n xs hy => ot_ne hts hy h.out
  have sym : ∀ {a b : Option Nat}, (a = none ∨ a ≠ b) → (b = none ∨ b ≠ a) := fun {a b} h => by
    rcases h with h | h
    · subst h; cases b <;> simp
    · exact .inr fun e => h e.symm
  refine ⟨by rw [List.length_append]; exact ho, fun j s hs => ?_, fun j k y z hy hz hjk => ?_⟩
  · by_cases e : j < rows.length
    · rw [List.getElem?_append_left e] at hs
      obtain ⟨y, h1, h2⟩ := h.row j s hs
      exact ⟨y, by rw [List.getElem?_append_left (by omega)]; exact h1, h2.kept hg (ne _ _ _ h2)⟩
    · have hj := (List.getElem?_eq_some_iff.1 hs).1
      rw [List.length_append, List.length_singleton] at hj
      obtain rfl : j = rows.length := by omega
      rw [List.getElem?_concat_length] at hs
      obtain rfl := Option.some.inj hs
      exact ⟨u, by rw [← hlen, List.getElem?_concat_length], hu.kept hg (ne _ _ _ hu)⟩
  · have hj := (List.getElem?_eq_some_iff.1 hy).1
    have hk := (List.getElem?_eq_some_iff.1 hz).1
    rw [List.length_append, List.length_singleton] at hj hk
    by_cases ej : j < us.length
    · rw [List.getElem?_append_left ej] at hy
      by_cases ek : k < us.length
      · rw [List.getElem?_append_left ek] at hz
        exact h.far j k y z hy hz hjk
      · obtain rfl : k = us.length := by omega
        rw [List.getElem?_concat_length] at hz
        obtain rfl := Option.some.inj hz
        exact hfar y (List.mem_of_getElem? hy)
    · obtain rfl : j = us.length := by omega
      rw [List.getElem?_concat_length] at hy
      obtain rfl := Option.some.inj hy
      by_cases ek : k < us.length
      · rw [List.getElem?_append_left ek] at hz
        exact sym (hfar z (List.mem_of_getElem? hz))
      · omega
theorem OwT.mem {B : Nat} {W : World} {v : Value} {rows : List (List α)} {us : List Value} (h : OwT enc sz t ts B W v rows us) {u : Value} (hu : u ∈ us) : ∃ r ∈ rows, W.ownsRow B t sz u r.length (cr enc r) := by
  have hlen : us.length = rows.length := by have := h.out.1; simpa using this
  obtain ⟨i, hi⟩ := List.getElem?_of_mem hu
  have hl := (List.getElem?_eq_some_iff.1 hi).1
  obtain ⟨r, hr⟩ : ∃ r, rows[i]? = some r := ⟨_, List.getElem?_eq_getElem (by omega)⟩
  obtain ⟨y, h1, h2⟩ := h.row i r hr
  rw [hi] at h1
  obtain rfl := Option.some.inj h1
  exact ⟨r, List.mem_of_getElem? hr, h2⟩
end
end Go.Proofs.Yteibdnjjfjplpaa
