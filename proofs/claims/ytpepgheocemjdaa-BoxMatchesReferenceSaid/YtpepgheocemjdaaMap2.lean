/-
  box.Inflate's closure.
  box.Inflate, box.Mid, box.Point.
-/
import Derived.Test.YtpepgheocemjdaaSqd
import Derived.Test.YtpepgheocemjdaaIw1
import Derived.Test.YtpepgheocemjdaaMap
import Derived.Laws.MakeOwn
namespace Go.Proofs.Ytpepgheocemjdaa
open Go.ChangeShapes Go.WideShapes Go.ChangeAt Go.RowKit
set_option linter.unusedVariables false
set_option linter.unusedSimpArgs false
set_option maxRecDepth 100000

attribute [local irreducible] Calls
open Go.BigFrame
attribute [local go_sem ↓] run_max_two run_min_two run_max_three

def inflI (d : Int) (p : Int × Int) : Int × Int := if Ent p.1 p.2 then p else (mkLo (p.1 - d) (p.2 + d), mkHi (p.1 - d) (p.2 + d))

set_option maxHeartbeats 1000000 in
theorem infl_ent (d : Int) (X : Nat) (w : World) (hX : X < w.heap.size) (hc : w.cell? ⟨X, 0, none⟩ = some (.int .i64 d)) :
    Calls Try.prog 94 #[.agg #[.int .i64 (-2147483648), .int .i64 2147483648], .pointer (some ⟨X, 0, none⟩)] w fun e w' => e = .returned (.agg #[.int .i64 (-2147483648), .int .i64 2147483648]) ∧ Below w.heap.size w w' := by
  go_enter Try.func94, Try.ntmps94
  go_wp2_with (fail)
  generalize hW0 : World.alloc (World.alloc w _) _ = W0
  have hT0 : Below w.heap.size w W0 := by subst hW0; exact (((Below.refl w.heap.size w).alloc (by go_size) _).alloc (by go_size) _)
  have S0 : ∀ g : Grown W0, w.heap.size < g.w.heap.size := fun g => Nat.lt_of_lt_of_le (by subst hW0; simp <;> omega) g.h.size
  have Y0 : w.heap.size < W0.heap.size := by subst hW0; simp <;> omega
  have F00 : ∀ g : Grown W0, g.w.cell? ⟨w.heap.size, 0, none⟩ = some (.int .i64 (-2147483648)) := fun g => (g.cell Y0).trans (by subst hW0; simp [go_sem])
  have H00 : ∀ g : Grown W0, g.w.frozen? ⟨w.heap.size, 0, none⟩ = false := fun g => (g.frozen Y0).trans (by subst hW0; simp [go_sem])
  have F01 : ∀ g : Grown W0, g.w.cell? ⟨w.heap.size, 1, none⟩ = some (.int .i64 2147483648) := fun g => (g.cell Y0).trans (by subst hW0; simp [go_sem])
  have H01 : ∀ g : Grown W0, g.w.frozen? ⟨w.heap.size, 1, none⟩ = false := fun g => (g.frozen Y0).trans (by subst hW0; simp [go_sem])
  clear Y0
  have S1 : ∀ g : Grown W0, w.heap.size + 1 < g.w.heap.size := fun g => Nat.lt_of_lt_of_le (by subst hW0; simp <;> omega) g.h.size
  have Y1 : w.heap.size + 1 < W0.heap.size := by subst hW0; simp <;> omega
  have F10 : ∀ g : Grown W0, g.w.cell? ⟨w.heap.size + 1, 0, none⟩ = some (.int .i64 0) := fun g => (g.cell Y1).trans (by subst hW0; simp [go_sem])
  have H10 : ∀ g : Grown W0, g.w.frozen? ⟨w.heap.size + 1, 0, none⟩ = false := fun g => (g.frozen Y1).trans (by subst hW0; simp [go_sem])
  have F11 : ∀ g : Grown W0, g.w.cell? ⟨w.heap.size + 1, 1, none⟩ = some (.int .i64 0) := fun g => (g.cell Y1).trans (by subst hW0; simp [go_sem])
  have H11 : ∀ g : Grown W0, g.w.frozen? ⟨w.heap.size + 1, 1, none⟩ = false := fun g => (g.frozen Y1).trans (by subst hW0; simp [go_sem])
  clear Y1
  clear hW0
  obtain ⟨g0, hg0⟩ : ∃ g : Grown W0, W0 = g.w := ⟨⟨W0, Below.refl _ _⟩, rfl⟩
  rw [hg0]
  clear hg0
  have FX : ∀ g : Grown W0, g.w.cell? ⟨X, 0, none⟩ = some (.int .i64 d) := fun g => (g.cell (Nat.lt_of_lt_of_le hX hT0.size)).trans ((hT0.cell (p := ⟨X, 0, none⟩) hX).trans hc)
  refine (iv_ent_yes _).mono ?_
  rintro e1 w1 ⟨rfl, hB1⟩
  obtain ⟨g1, rfl⟩ := grow g0 hB1
  clear hB1
  go_wp2_with (fail)
  have hB : Below w.heap.size w g1.w := below_then hT0 g1.h
  refine bodyPost_ret (v := .agg #[.int .i64 (-2147483648), .int .i64 2147483648]) (by simp [results, Try.results94, go_sem, F10, F11]) rfl ⟨rfl, ?_⟩
  go_grown

set_option maxHeartbeats 1000000 in
theorem infl_no (a b : Int) (d : Int) (X : Nat) (w : World) (hX : X < w.heap.size) (hc : w.cell? ⟨X, 0, none⟩ = some (.int .i64 d)) (hv : VI a b) (he : ¬ Ent a b) (hd0 : 0 ≤ d) (hd1 : d ≤ 4294967296) :
    Calls Try.prog 94 #[.agg #[.int .i64 a, .int .i64 b], .pointer (some ⟨X, 0, none⟩)] w fun e w' => e = .returned (.agg #[.int .i64 (mkLo (a - d) (b + d)), .int .i64 (mkHi (a - d) (b + d))]) ∧ Below w.heap.size w w' := by
  have he' := Lib.hid he
  obtain ⟨ha1, ha2, hb1, hb2, hab⟩ := hv.bd
  have c1 := fun w => iv_new (a - d) (b + d) w (by omega)
  clear he hv
  generalize mkLo (a - d) (b + d) = p at *
  generalize mkHi (a - d) (b + d) = q at *
  go_enter Try.func94, Try.ntmps94
  go_wp2_with (fail)
  generalize hW0 : World.alloc (World.alloc w _) _ = W0
  have hT0 : Below w.heap.size w W0 := by subst hW0; exact (((Below.refl w.heap.size w).alloc (by go_size) _).alloc (by go_size) _)
  have S0 : ∀ g : Grown W0, w.heap.size < g.w.heap.size := fun g => Nat.lt_of_lt_of_le (by subst hW0; simp <;> omega) g.h.size
  have Y0 : w.heap.size < W0.heap.size := by subst hW0; simp <;> omega
  have F00 : ∀ g : Grown W0, g.w.cell? ⟨w.heap.size, 0, none⟩ = some (.int .i64 a) := fun g => (g.cell Y0).trans (by subst hW0; simp [go_sem])
  have H00 : ∀ g : Grown W0, g.w.frozen? ⟨w.heap.size, 0, none⟩ = false := fun g => (g.frozen Y0).trans (by subst hW0; simp [go_sem])
  have F01 : ∀ g : Grown W0, g.w.cell? ⟨w.heap.size, 1, none⟩ = some (.int .i64 b) := fun g => (g.cell Y0).trans (by subst hW0; simp [go_sem])
  have H01 : ∀ g : Grown W0, g.w.frozen? ⟨w.heap.size, 1, none⟩ = false := fun g => (g.frozen Y0).trans (by subst hW0; simp [go_sem])
  clear Y0
  have S1 : ∀ g : Grown W0, w.heap.size + 1 < g.w.heap.size := fun g => Nat.lt_of_lt_of_le (by subst hW0; simp <;> omega) g.h.size
  have Y1 : w.heap.size + 1 < W0.heap.size := by subst hW0; simp <;> omega
  have F10 : ∀ g : Grown W0, g.w.cell? ⟨w.heap.size + 1, 0, none⟩ = some (.int .i64 0) := fun g => (g.cell Y1).trans (by subst hW0; simp [go_sem])
  have H10 : ∀ g : Grown W0, g.w.frozen? ⟨w.heap.size + 1, 0, none⟩ = false := fun g => (g.frozen Y1).trans (by subst hW0; simp [go_sem])
  have F11 : ∀ g : Grown W0, g.w.cell? ⟨w.heap.size + 1, 1, none⟩ = some (.int .i64 0) := fun g => (g.cell Y1).trans (by subst hW0; simp [go_sem])
  have H11 : ∀ g : Grown W0, g.w.frozen? ⟨w.heap.size + 1, 1, none⟩ = false := fun g => (g.frozen Y1).trans (by subst hW0; simp [go_sem])
  clear Y1
  clear hW0
  obtain ⟨g0, hg0⟩ : ∃ g : Grown W0, W0 = g.w := ⟨⟨W0, Below.refl _ _⟩, rfl⟩
  rw [hg0]
  clear hg0
  have FX : ∀ g : Grown W0, g.w.cell? ⟨X, 0, none⟩ = some (.int .i64 d) := fun g => (g.cell (Nat.lt_of_lt_of_le hX hT0.size)).trans ((hT0.cell (p := ⟨X, 0, none⟩) hX).trans hc)
  refine (iv_ent_no a b _ he'.out).mono ?_
  rintro e1 w1 ⟨rfl, hB1⟩
  obtain ⟨g1, rfl⟩ := grow g0 hB1
  clear hB1
  go_wp2_with (fail)
  refine (c1 _).mono ?_
  rintro e2 w2 ⟨rfl, hB2⟩
  obtain ⟨g2, rfl⟩ := grow g1 hB2
  clear hB2
  go_wp2_with (fail)
  have hB : Below w.heap.size w g2.w := below_then hT0 g2.h
  refine bodyPost_ret (v := .agg #[.int .i64 p, .int .i64 q]) (by simp [results, Try.results94, go_sem, F10, F11]) rfl ⟨rfl, ?_⟩
  go_grown

theorem infl1 (p : Int × Int) (d : Int) (X : Nat) (w : World) (hX : X < w.heap.size) (hc : w.cell? ⟨X, 0, none⟩ = some (.int .i64 d)) (hv : VB p) (hd0 : 0 ≤ d) (hd1 : d ≤ 4294967296) :
    Calls Try.prog 94 #[.agg #[.int .i64 p.1, .int .i64 p.2], .pointer (some ⟨X, 0, none⟩)] w fun e w' => e = .returned (.agg #[.int .i64 (inflI d p).1, .int .i64 (inflI d p).2]) ∧ Below w.heap.size w w' := by
  obtain ⟨a, b⟩ := p
  unfold inflI
  by_cases he : Ent a b
  · rw [if_pos he]
    obtain ⟨rfl, rfl⟩ := he
    exact infl_ent d X w hX hc
  · rw [if_neg he]
    exact infl_no a b d X w hX hc hv he hd0 hd1
end Go.Proofs.Ytpepgheocemjdaa

namespace Go.Proofs.Ytpepgheocemjdaa
open Go.ChangeShapes Go.WideShapes Go.ChangeAt Go.RowKit
set_option linter.unusedVariables false
set_option linter.unusedSimpArgs false
set_option maxRecDepth 100000


set_option maxHeartbeats 2000000 in
theorem map_infl (v : Value) (l : List (Int × Int)) (w : World) (hv : Bx w v l) (hsm : l.length ≤ 1000) (d : Int) (X : Nat) (hX : X < w.heap.size) (hcX : w.cell? ⟨X, 0, none⟩ = some (.int .i64 d)) (hd0 : 0 ≤ d) (hd1 : d ≤ 4294967296) (hv' : ∀ p ∈ l, VB p) :
    Calls Try.prog 93 #[v, .func (.func 94) #[] #[.pointer (some ⟨X, 0, none⟩)]] w fun e W' => ∃ u, e = .returned u ∧ Bx W' u (l.map (inflI d)) ∧ Below w.heap.size w W' := by
  obtain ⟨hl, p, c, rfl, hp⟩ := hv
  clear hl
  obtain ⟨i0, hi, hz0, hz1, hz2⟩ := info_parts info_iv
  obtain ⟨W1, hW1⟩ : ∃ W1, w.alloc (.cells (madeCells (Value.cells (.agg #[.int .i64 0, .int .i64 0])) (l.length * 2)) 23) = W1 := ⟨_, rfl⟩
  have hmk : (Instr.makeSlice 36 (.int .i64 (l.length : Int)) (.int .i64 (l.length : Int))).run Try.prog w = .ok (.slice (some ⟨w.heap.size, 0, none⟩) l.length l.length) W1 := by
    have := run_make (P := Try.prog) w 36 23 i0 _ Try.underlying36 hi hz0 .i64 .i64 l.length l.length (by omega) (Int.le_refl _) (by rw [hz2]; omega) (by omega)
    rw [hz1] at this
    rw [← hW1]
    simpa using this
  obtain ⟨rest, hrow0⟩ : ∃ rest, W1.ownsRow w.heap.size 23 2 (.slice (some ⟨w.heap.size, 0, none⟩) l.length l.length) l.length rest := by
    rw [← hW1]
    exact ⟨_, World.ownsRow_lit w _ l.length (Nat.le_refl _) (by unfold maxLen; omega) (size_madeCells _ _)⟩
  have hB1 : Below w.heap.size w W1 := by rw [← hW1]; exact (Below.refl _ w).alloc (Nat.le_refl _) _
  clear hW1 hi hz0 hz1 hz2
  go_enter Try.func93, Try.ntmps93
  go_wp2_with (fail)
  go_loopw [13] (fun i wr => ∃ (k : Nat) (rest : List Value), i = .int .i64 k ∧ k ≤ l.length ∧ wr.ownsRow w.heap.size 23 2 (.slice (some ⟨w.heap.size, 0, none⟩) l.length l.length) l.length (cz ((l.take k).map (inflI d)) ++ rest) ∧ Below w.heap.size w wr) (fun i _ => l.length - (intOf i).toNat)
  case atStart => exact ⟨0, rest, rfl, Nat.zero_le _, by simpa [cz] using hrow0, hB1⟩
  case round =>
    obtain ⟨k, rest', rfl, hk, hrow, hB⟩ := hrel
    by_cases hlt : k < l.length
    · obtain ⟨b, o, x, y, rfl, hx, hb, c1, c2⟩ := Bx.at (c := 0) (n := 0) hp hlt hB
      have hlk : (k : Int) < l.length := by omega
      have hX : (l.take (k + 1)).map (inflI d) = (l.take k).map (inflI d) ++ [(inflI d) (x, y)] := by
        rw [List.take_add_one, hx]
        simp
      have hlc : (cz ((l.take k).map (inflI d))).length = k * 2 := by rw [cz_len, List.length_map, List.length_take]; omega
      have HL := Lib.hid hlc
      have HX := Lib.hid hX
      clear hX
      have hwl : w.heap.size < wr.heap.size := (hrow.lt w.heap.size rfl).2
      have hbw : b < wr.heap.size := Nat.lt_of_lt_of_le hb hB.size
      have hcap := hp k _ hx
      have HMEM := Lib.hid (List.mem_of_getElem? hx)
      clear hp hx hcap
      obtain ⟨cs, hcs⟩ : ∃ cs, cz ((l.take k).map (inflI d)) = cs := ⟨_, rfl⟩
      rw [hcs] at HL hrow hlc
      have HCS := Lib.hid hcs
      clear hcs hlc
      go_wp2_with (fail)
      refine (infl1 (x, y) d X _ (Nat.lt_of_lt_of_le hX (hB.alloc hB.size _).size) (((hB.alloc hB.size _).cell (p := ⟨X, 0, none⟩) hX).trans hcX) (hv' _ HMEM.out) hd0 hd1).mono ?_
      rintro e w5 ⟨rfl, hB5⟩
      have h56 : Below w.heap.size wr w5 := ((Below.refl _ _).alloc hB.size _).trans (hB5.mono (by simp; omega))
      have hrow5 := (hrow.alloc (.cells #[.int .i64 x, .int .i64 y] 23)).kept (grown_below hB5) (.inr (by simp [Value.ownBlock]))
      have hB6 := hB.trans h56
      obtain ⟨hlen5, _⟩ := id hrow5
      rw [List.length_append, HL.out] at hlen5
      match rest', hlen5 with
      | [], h => exfalso; simp at h; omega
      | [_], h => exfalso; simp at h; omega
      | r0 :: r1 :: rest'', h =>
      have q0 := hrow5.cellAt (k * 2) (by omega)
      have q1 := hrow5.cellAt (k * 2 + 1) (by omega)
      rw [List.getElem?_append_right (by rw [HL.out]; omega), HL.out, Nat.sub_self] at q0
      rw [List.getElem?_append_right (by rw [HL.out]; omega), HL.out, Nat.add_sub_cancel_left] at q1
      simp only [List.getElem?_cons_zero, List.getElem?_cons_succ] at q0 q1
      have z0 := hrow5.frozenAt (k * 2)
      have z1 := hrow5.frozenAt (k * 2 + 1)
      clear h
      have s1 := hrow5.stored (k * 2) (.int .i64 ((inflI d) (x, y)).1)
      have s2 := s1.1.stored (k * 2 + 1) (.int .i64 ((inflI d) (x, y)).2)
      have e2 : ((cs ++ r0 :: r1 :: rest'').set (k * 2) (.int .i64 ((inflI d) (x, y)).1)).set (k * 2 + 1) (.int .i64 ((inflI d) (x, y)).2) = cs ++ cz [(inflI d) (x, y)] ++ rest'' := by
        rw [List.set_append_right _ _ (by rw [HL.out]; omega), List.set_append_right _ _ (by rw [HL.out]; omega), HL.out, Nat.sub_self, Nat.add_sub_cancel_left]
        simp [cz]
      rw [e2] at s2
      have HS2 := Lib.hid s2.1
      clear s1 s2 e2
      go_wp2_with (fail)
      go_roundw
      case rel =>
        refine ⟨k + 1, rest'', by go_num, by omega, ?_, (hB6.setCell (p := ⟨w.heap.size, k * 2, none⟩) (Nat.le_refl _) _).setCell (p := ⟨w.heap.size, k * 2 + 1, none⟩) (Nat.le_refl _) _⟩
        rw [HX.out, cz_app, HCS.out]
        exact HS2.out
      case measure => simp [intOf]; omega
    · obtain rfl : k = l.length := by omega
      go_wp2_with (fail)
      go_ret
      refine ⟨_, rfl, ?_, hB⟩
      rw [List.take_of_length_le (Nat.le_refl _)] at hrow
      have hlen := hrow.1
      rw [List.length_append, cz_len, List.length_map] at hlen
      have hr : rest' = [] := List.length_eq_zero_iff.1 (by omega)
      rw [hr, List.append_nil] at hrow
      exact Bx.own (by simpa using hrow) (by simp; unfold maxLen; omega)

set_option maxHeartbeats 1000000 in
theorem box_mid (v : Value) (l : List (Int × Int)) (w : World) (hv : Bx w v l) (hsm : l.length ≤ 1000) (hv' : ∀ p ∈ l, VB p) :
    Calls Try.prog 48 #[v] w fun e W' => ∃ u, e = .returned u ∧ Pt W' u (l.map midI) ∧ Below w.heap.size w W' := by
  have c1 := map_mid v l w hv hsm hv'
  obtain ⟨hl, p, c, rfl, hp⟩ := hv
  clear hp hl
  generalize l.map midI = r at *
  go_enter Try.func48, Try.ntmps48
  go_wp2_with (fail)
  refine c1.mono ?_
  rintro e w1 ⟨u, rfl, hu, hB⟩
  go_wp2_with (fail)
  go_ret
  exact ⟨_, rfl, hu, hB⟩

set_option maxHeartbeats 1000000 in
theorem box_point (v : Value) (l : List Int) (w : World) (hv : Pt w v l) (hsm : l.length ≤ 1000) :
    Calls Try.prog 44 #[v] w fun e W' => ∃ u, e = .returned u ∧ Bx W' u (l.map ptI) ∧ Below w.heap.size w W' := by
  have c1 := map_point v l w hv hsm
  obtain ⟨hl, p, c, rfl, hp⟩ := hv
  clear hp hl
  generalize l.map ptI = r at *
  go_enter Try.func44, Try.ntmps44
  go_wp2_with (fail)
  refine c1.mono ?_
  rintro e w1 ⟨u, rfl, hu, hB⟩
  go_wp2_with (fail)
  go_ret
  exact ⟨_, rfl, hu, hB⟩

set_option maxHeartbeats 1000000 in
theorem box_inflate (v : Value) (l : List (Int × Int)) (d : Int) (w : World) (hv : Bx w v l) (hsm : l.length ≤ 1000) (hd0 : 0 ≤ d) (hd1 : d ≤ 4294967296) (hv' : ∀ p ∈ l, VB p) :
    Calls Try.prog 42 #[v, .int .i64 d] w fun e W' => ∃ u, e = .returned u ∧ Bx W' u (l.map (inflI d)) ∧ Below w.heap.size w W' := by
  have hB0 : Below w.heap.size w (w.alloc (.cells #[.int .i64 d] 2)) := (Below.refl _ _).alloc (Nat.le_refl _) _
  have c1 := map_infl v l (w.alloc (.cells #[.int .i64 d] 2)) (hv.grow hB0) hsm d w.heap.size (by simp) (by simp [go_sem]) hd0 hd1 hv'
  obtain ⟨hl, p, c, rfl, hp⟩ := hv
  clear hp hl hv'
  generalize l.map (inflI d) = r at *
  go_enter Try.func42, Try.ntmps42
  go_wp2_with (fail)
  refine c1.mono ?_
  rintro e w1 ⟨u, rfl, hu, hB⟩
  go_wp2_with (fail)
  go_ret
  exact ⟨_, rfl, hu, below_then hB0 hB⟩
end Go.Proofs.Ytpepgheocemjdaa
