/-
  Je
-/
import Derived.Test.YtbppfohcicepcaaGreatKbq
import Derived.Test.YtbppfohcicepcaaGreatKbr
namespace Go.Proofs.YtbppfohcicepcaaGreat
open Go.ChangeShapes Go.WideShapes Go.ChangeAt Go.RowKit
set_option linter.unusedVariables false
set_option linter.unusedSimpArgs false
set_option maxRecDepth 100000
attribute [local irreducible] Calls
open Go.Maps
variable {Fz : Nat}
/-- A term by its pointer; one and two operands in a slice. -/
def TmQ (Fz : Nat) (w : World) (z : Value) (T : Ex) : Prop := ∃ b, z = .pointer (some ⟨b, 0, none⟩) ∧ TmP Fz w (.pointer (some ⟨b, 0, none⟩)) T
theorem tmq_of {w : World} {z : Value} {T : Ex} (h : TmP Fz w z T) : TmQ Fz w z T := by
  obtain ⟨b, S, rfl, _⟩ := h.root
  exact ⟨b, rfl, h⟩
def Tm1 (Fz : Nat) (w : World) (z : Value) (a : Ex) : Prop := ∃ r u, z = .slice (some ⟨r, 0, none⟩) 1 1 ∧ w.cell? ⟨r, 0, none⟩ = some u ∧ TmP Fz w u a ∧ Fz ≤ r
def Tm2 (Fz : Nat) (w : World) (z : Value) (a b : Ex) : Prop := ∃ r u u', z = .slice (some ⟨r, 0, none⟩) 2 2 ∧ w.cell? ⟨r, 0, none⟩ = some u ∧ w.cell? ⟨r, 1, none⟩ = some u' ∧ TmP Fz w u a ∧ TmP Fz w u' b ∧ Fz ≤ r
theorem steady_tmq (T : Ex) : Steady (fun v w => TmQ Fz w v T) := fun _ _ _ hb ⟨b, e, h⟩ => ⟨b, e, h.grow hb⟩
theorem steady_tm1 (a : Ex) : Steady (fun v w => Tm1 Fz w v a) := fun _ _ _ hb ⟨r, u, e, h1, h2, hf⟩ => ⟨r, u, e, cell_grow h1 hb, h2.grow hb, hf⟩
theorem steady_tm2 (a b : Ex) : Steady (fun v w => Tm2 Fz w v a b) := fun _ _ _ hb ⟨r, u, u', e, h1, h2, h3, h4, hf⟩ => ⟨r, u, u', e, cell_grow h1 hb, cell_grow h2 hb, h3.grow hb, h4.grow hb, hf⟩
theorem TmP.al {w : World} {v : Value} {T : Ex} (h : TmP Fz w v T) (o : Obj) : TmP Fz (w.alloc o) v T := h.grow ((Below.refl _ _).alloc (Nat.le_refl _) _)
theorem new_1 (w : World) (u : Value) (t : TypeId) : (w.alloc (.cells #[u] t)).cell? ⟨w.heap.size, 0, none⟩ = some u := heapN_cellj (World.alloc_heap_new w _) (k := 0) rfl
theorem new_2 (w : World) (u u' : Value) (t : TypeId) : (w.alloc (.cells #[u, u'] t)).cell? ⟨w.heap.size, 0, none⟩ = some u ∧ (w.alloc (.cells #[u, u'] t)).cell? ⟨w.heap.size, 1, none⟩ = some u' := ⟨heapN_cellj (World.alloc_heap_new w _) (k := 0) rfl, heapN_cellj (World.alloc_heap_new w _) (k := 1) rfl⟩
set_option maxHeartbeats 4000000 in
theorem twice_ok (N : Int) (v : Value) (a : Ex) (w : World) (hv : TmP Fz w v a) (ea : EV N a) : Calls Tryz.prog 110 #[v] w fun e w' => ∃ z, e = .returned z ∧ TmP Fz w' z (s2 (ndo 9) (pt 131072) a) ∧ Below w.heap.size w w' := by
  obtain ⟨b1, S1, rfl, _⟩ := hv.root
  have HV := Lib.hid hv
  have EA := Lib.hid ea
  clear hv ea
  go_enter Tryz.func110, Tryz.ntmps110
  go_wp2_with (fail)
  refine (number_ok (Fz := Fz) 131072 _ (by decide) HV.out.fz).mono ?_
  rintro e w1 ⟨z, rfl, hz, hB⟩
  obtain ⟨b2, S2, rfl, _⟩ := hz.root
  have HZ := Lib.hid hz
  have HB := Lib.hid hB
  clear hz hB
  go_wp2_with (fail)
  refine (apply2_ok 9 2 (w1.alloc (.cells #[.pointer (some ⟨b2, 0, none⟩), .pointer (some ⟨b1, 0, none⟩)] 69)) N w1.heap.size 0 _ _ (pt 131072) a (new_2 _ _ _ _).1 (new_2 _ _ _ _).2 (HZ.out.al _) ((HV.out.grow HB.out).al _) (pt_ev (by decide)) EA.out (by omega) HZ.out.fz).mono ?_
  rintro e w2 ⟨z, rfl, hz, hx⟩
  have HZ2 := Lib.hid hz
  have HB2 := Lib.hid (below_then (HB.out.alloc HB.out.size (.cells #[.pointer (some ⟨b2, 0, none⟩), .pointer (some ⟨b1, 0, none⟩)] 69)) hx)
  clear hz hx
  go_wp2_with (fail)
  go_ret
  exact ⟨_, rfl, HZ2.out, HB2.out⟩
set_option maxHeartbeats 8000000 in
theorem rule1_ok (N : Int) (va ua vb ub : Value) (a a' b b' : Ex) (w : World) (h1 : TmP Fz w va a) (h2 : TmP Fz w ua a') (h3 : TmP Fz w vb b) (h4 : TmP Fz w ub b') (e1 : EV N a) (e2 : EV N a') (e3 : EV N b) (e4 : EV N b') :
    Calls Tryz.prog 103 #[.agg #[va, ua], .agg #[vb, ub]] w fun e w' => ∃ z, e = .returned z ∧ TmP Fz w' z (rl1 4 (a, a')) ∧ Below w.heap.size w w' := by
  obtain ⟨ba, Sa, rfl, _⟩ := h1.root
  obtain ⟨ca, Ta, rfl, _⟩ := h2.root
  obtain ⟨bb, Sb, rfl, _⟩ := h3.root
  obtain ⟨cb, Tb, rfl, _⟩ := h4.root
  have hE : Below w.heap.size w ((w.alloc (.cells #[.pointer (some ⟨ba, 0, none⟩), .pointer (some ⟨ca, 0, none⟩)] 96)).alloc (.cells #[.pointer (some ⟨bb, 0, none⟩), .pointer (some ⟨cb, 0, none⟩)] 96)) := allocs_below [.cells #[.pointer (some ⟨ba, 0, none⟩), .pointer (some ⟨ca, 0, none⟩)] 96, .cells #[.pointer (some ⟨bb, 0, none⟩), .pointer (some ⟨cb, 0, none⟩)] 96] w
  have HA := Lib.hid (show Blk ((w.alloc (.cells #[.pointer (some ⟨ba, 0, none⟩), .pointer (some ⟨ca, 0, none⟩)] 96)).alloc (.cells #[.pointer (some ⟨bb, 0, none⟩), .pointer (some ⟨cb, 0, none⟩)] 96)) (w.heap.size) (.cells #[.pointer (some ⟨ba, 0, none⟩), .pointer (some ⟨ca, 0, none⟩)] 96) from allocs_at [.cells #[.pointer (some ⟨ba, 0, none⟩), .pointer (some ⟨ca, 0, none⟩)] 96, .cells #[.pointer (some ⟨bb, 0, none⟩), .pointer (some ⟨cb, 0, none⟩)] 96] w 0 _ rfl)
  have HB := Lib.hid (show Blk ((w.alloc (.cells #[.pointer (some ⟨ba, 0, none⟩), .pointer (some ⟨ca, 0, none⟩)] 96)).alloc (.cells #[.pointer (some ⟨bb, 0, none⟩), .pointer (some ⟨cb, 0, none⟩)] 96)) (w.heap.size + 1) (.cells #[.pointer (some ⟨bb, 0, none⟩), .pointer (some ⟨cb, 0, none⟩)] 96) from allocs_at [.cells #[.pointer (some ⟨ba, 0, none⟩), .pointer (some ⟨ca, 0, none⟩)] 96, .cells #[.pointer (some ⟨bb, 0, none⟩), .pointer (some ⟨cb, 0, none⟩)] 96] w 1 _ rfl)
  have P1 := fun g : Grown ((w.alloc (.cells #[.pointer (some ⟨ba, 0, none⟩), .pointer (some ⟨ca, 0, none⟩)] 96)).alloc (.cells #[.pointer (some ⟨bb, 0, none⟩), .pointer (some ⟨cb, 0, none⟩)] 96)) => (h1.grow hE).grow g.h
  have P2 := fun g : Grown ((w.alloc (.cells #[.pointer (some ⟨ba, 0, none⟩), .pointer (some ⟨ca, 0, none⟩)] 96)).alloc (.cells #[.pointer (some ⟨bb, 0, none⟩), .pointer (some ⟨cb, 0, none⟩)] 96)) => (h2.grow hE).grow g.h
  have P3 := fun g : Grown ((w.alloc (.cells #[.pointer (some ⟨ba, 0, none⟩), .pointer (some ⟨ca, 0, none⟩)] 96)).alloc (.cells #[.pointer (some ⟨bb, 0, none⟩), .pointer (some ⟨cb, 0, none⟩)] 96)) => (h3.grow hE).grow g.h
  have P4 := fun g : Grown ((w.alloc (.cells #[.pointer (some ⟨ba, 0, none⟩), .pointer (some ⟨ca, 0, none⟩)] 96)).alloc (.cells #[.pointer (some ⟨bb, 0, none⟩), .pointer (some ⟨cb, 0, none⟩)] 96)) => (h4.grow hE).grow g.h
  have P1 := Lib.hid P1
  have P2 := Lib.hid P2
  have P3 := Lib.hid P3
  have P4 := Lib.hid P4
  have HE := Lib.hid hE
  have E1 := Lib.hid e1
  have E2 := Lib.hid e2
  have E3 := Lib.hid e3
  have E4 := Lib.hid e4
  clear h1 h2 h3 h4 e1 e2 e3 e4 hE
  unfold rl1
  simp only [Int.reduceEq, if_true, if_false]
  have ez : ((w.alloc (.cells #[.pointer (some ⟨ba, 0, none⟩), .pointer (some ⟨ca, 0, none⟩)] 96)).alloc (.cells #[.pointer (some ⟨bb, 0, none⟩), .pointer (some ⟨cb, 0, none⟩)] 96)).heap.size = w.heap.size + 1 + 1 := by rw [alloc_sz, alloc_sz]
  have EZ := Lib.hid ez
  clear ez
  go_enter Tryz.func103, Tryz.ntmps103
  go_wp2_with (fail)
  refine (apply1_ok 4 1 (((w.alloc (.cells #[.pointer (some ⟨ba, 0, none⟩), .pointer (some ⟨ca, 0, none⟩)] 96)).alloc (.cells #[.pointer (some ⟨bb, 0, none⟩), .pointer (some ⟨cb, 0, none⟩)] 96)).alloc (.cells #[.pointer (some ⟨ca, 0, none⟩)] 69)) N (w.heap.size + 1 + 1) 0 _ a' (by have := new_1 ((w.alloc (.cells #[.pointer (some ⟨ba, 0, none⟩), .pointer (some ⟨ca, 0, none⟩)] 96)).alloc (.cells #[.pointer (some ⟨bb, 0, none⟩), .pointer (some ⟨cb, 0, none⟩)] 96)) (.pointer (some ⟨ca, 0, none⟩)) 69; rw [EZ.out] at this; exact this) ((P2.out ⟨_, Below.refl _ _⟩).al _) E2.out (by omega) (by have := (P2.out ⟨_, Below.refl _ _⟩).fz; rw [EZ.out] at this; exact this)).mono ?_
  rintro e w2 ⟨z, rfl, hz, hx⟩
  have HZ2 := Lib.hid hz
  have HB2 := Lib.hid (below_then (HE.out.alloc HE.out.size (.cells #[.pointer (some ⟨ca, 0, none⟩)] 69)) hx)
  clear hz hx
  go_wp2_with (fail)
  go_ret
  exact ⟨_, rfl, HZ2.out, HB2.out⟩
set_option maxHeartbeats 8000000 in
theorem rule2_ok (N : Int) (va ua vb ub : Value) (a a' b b' : Ex) (w : World) (h1 : TmP Fz w va a) (h2 : TmP Fz w ua a') (h3 : TmP Fz w vb b) (h4 : TmP Fz w ub b') (e1 : EV N a) (e2 : EV N a') (e3 : EV N b) (e4 : EV N b') :
    Calls Tryz.prog 105 #[.agg #[va, ua], .agg #[vb, ub]] w fun e w' => ∃ z, e = .returned z ∧ TmP Fz w' z (rl2 7 (a, a') (b, b')) ∧ Below w.heap.size w w' := by
  obtain ⟨ba, Sa, rfl, _⟩ := h1.root
  obtain ⟨ca, Ta, rfl, _⟩ := h2.root
  obtain ⟨bb, Sb, rfl, _⟩ := h3.root
  obtain ⟨cb, Tb, rfl, _⟩ := h4.root
  have hE : Below w.heap.size w ((w.alloc (.cells #[.pointer (some ⟨ba, 0, none⟩), .pointer (some ⟨ca, 0, none⟩)] 96)).alloc (.cells #[.pointer (some ⟨bb, 0, none⟩), .pointer (some ⟨cb, 0, none⟩)] 96)) := allocs_below [.cells #[.pointer (some ⟨ba, 0, none⟩), .pointer (some ⟨ca, 0, none⟩)] 96, .cells #[.pointer (some ⟨bb, 0, none⟩), .pointer (some ⟨cb, 0, none⟩)] 96] w
  have HA := Lib.hid (show Blk ((w.alloc (.cells #[.pointer (some ⟨ba, 0, none⟩), .pointer (some ⟨ca, 0, none⟩)] 96)).alloc (.cells #[.pointer (some ⟨bb, 0, none⟩), .pointer (some ⟨cb, 0, none⟩)] 96)) (w.heap.size) (.cells #[.pointer (some ⟨ba, 0, none⟩), .pointer (some ⟨ca, 0, none⟩)] 96) from allocs_at [.cells #[.pointer (some ⟨ba, 0, none⟩), .pointer (some ⟨ca, 0, none⟩)] 96, .cells #[.pointer (some ⟨bb, 0, none⟩), .pointer (some ⟨cb, 0, none⟩)] 96] w 0 _ rfl)
  have HB := Lib.hid (show Blk ((w.alloc (.cells #[.pointer (some ⟨ba, 0, none⟩), .pointer (some ⟨ca, 0, none⟩)] 96)).alloc (.cells #[.pointer (some ⟨bb, 0, none⟩), .pointer (some ⟨cb, 0, none⟩)] 96)) (w.heap.size + 1) (.cells #[.pointer (some ⟨bb, 0, none⟩), .pointer (some ⟨cb, 0, none⟩)] 96) from allocs_at [.cells #[.pointer (some ⟨ba, 0, none⟩), .pointer (some ⟨ca, 0, none⟩)] 96, .cells #[.pointer (some ⟨bb, 0, none⟩), .pointer (some ⟨cb, 0, none⟩)] 96] w 1 _ rfl)
  have P1 := fun g : Grown ((w.alloc (.cells #[.pointer (some ⟨ba, 0, none⟩), .pointer (some ⟨ca, 0, none⟩)] 96)).alloc (.cells #[.pointer (some ⟨bb, 0, none⟩), .pointer (some ⟨cb, 0, none⟩)] 96)) => (h1.grow hE).grow g.h
  have P2 := fun g : Grown ((w.alloc (.cells #[.pointer (some ⟨ba, 0, none⟩), .pointer (some ⟨ca, 0, none⟩)] 96)).alloc (.cells #[.pointer (some ⟨bb, 0, none⟩), .pointer (some ⟨cb, 0, none⟩)] 96)) => (h2.grow hE).grow g.h
  have P3 := fun g : Grown ((w.alloc (.cells #[.pointer (some ⟨ba, 0, none⟩), .pointer (some ⟨ca, 0, none⟩)] 96)).alloc (.cells #[.pointer (some ⟨bb, 0, none⟩), .pointer (some ⟨cb, 0, none⟩)] 96)) => (h3.grow hE).grow g.h
  have P4 := fun g : Grown ((w.alloc (.cells #[.pointer (some ⟨ba, 0, none⟩), .pointer (some ⟨ca, 0, none⟩)] 96)).alloc (.cells #[.pointer (some ⟨bb, 0, none⟩), .pointer (some ⟨cb, 0, none⟩)] 96)) => (h4.grow hE).grow g.h
  have P1 := Lib.hid P1
  have P2 := Lib.hid P2
  have P3 := Lib.hid P3
  have P4 := Lib.hid P4
  have HE := Lib.hid hE
  have E1 := Lib.hid e1
  have E2 := Lib.hid e2
  have E3 := Lib.hid e3
  have E4 := Lib.hid e4
  clear h1 h2 h3 h4 e1 e2 e3 e4 hE
  unfold rl2
  simp only [Int.reduceEq, if_true, if_false]
  have ez : ((w.alloc (.cells #[.pointer (some ⟨ba, 0, none⟩), .pointer (some ⟨ca, 0, none⟩)] 96)).alloc (.cells #[.pointer (some ⟨bb, 0, none⟩), .pointer (some ⟨cb, 0, none⟩)] 96)).heap.size = w.heap.size + 1 + 1 := by rw [alloc_sz, alloc_sz]
  have EZ := Lib.hid ez
  clear ez
  go_enter Tryz.func105, Tryz.ntmps105
  go_wp2_with (fail)
  refine (apply2_ok 7 2 (((w.alloc (.cells #[.pointer (some ⟨ba, 0, none⟩), .pointer (some ⟨ca, 0, none⟩)] 96)).alloc (.cells #[.pointer (some ⟨bb, 0, none⟩), .pointer (some ⟨cb, 0, none⟩)] 96)).alloc (.cells #[.pointer (some ⟨ca, 0, none⟩), .pointer (some ⟨cb, 0, none⟩)] 69)) N (w.heap.size + 1 + 1) 0 _ _ a' b' (by have := (new_2 ((w.alloc (.cells #[.pointer (some ⟨ba, 0, none⟩), .pointer (some ⟨ca, 0, none⟩)] 96)).alloc (.cells #[.pointer (some ⟨bb, 0, none⟩), .pointer (some ⟨cb, 0, none⟩)] 96)) (.pointer (some ⟨ca, 0, none⟩)) (.pointer (some ⟨cb, 0, none⟩)) 69).1; rw [EZ.out] at this; exact this) (by have := (new_2 ((w.alloc (.cells #[.pointer (some ⟨ba, 0, none⟩), .pointer (some ⟨ca, 0, none⟩)] 96)).alloc (.cells #[.pointer (some ⟨bb, 0, none⟩), .pointer (some ⟨cb, 0, none⟩)] 96)) (.pointer (some ⟨ca, 0, none⟩)) (.pointer (some ⟨cb, 0, none⟩)) 69).2; rw [EZ.out] at this; exact this) ((P2.out ⟨_, Below.refl _ _⟩).al _) ((P4.out ⟨_, Below.refl _ _⟩).al _) E2.out E4.out (by omega) (by have := (P2.out ⟨_, Below.refl _ _⟩).fz; rw [EZ.out] at this; exact this)).mono ?_
  rintro e w2 ⟨z, rfl, hz, hx⟩
  have HZ2 := Lib.hid hz
  have HB2 := Lib.hid (below_then (HE.out.alloc HE.out.size (.cells #[.pointer (some ⟨ca, 0, none⟩), .pointer (some ⟨cb, 0, none⟩)] 69)) hx)
  clear hz hx
  go_wp2_with (fail)
  go_ret
  exact ⟨_, rfl, HZ2.out, HB2.out⟩
set_option maxHeartbeats 8000000 in
theorem rule3_ok (N : Int) (va ua vb ub : Value) (a a' b b' : Ex) (w : World) (h1 : TmP Fz w va a) (h2 : TmP Fz w ua a') (h3 : TmP Fz w vb b) (h4 : TmP Fz w ub b') (e1 : EV N a) (e2 : EV N a') (e3 : EV N b) (e4 : EV N b') :
    Calls Tryz.prog 106 #[.agg #[va, ua], .agg #[vb, ub]] w fun e w' => ∃ z, e = .returned z ∧ TmP Fz w' z (rl2 8 (a, a') (b, b')) ∧ Below w.heap.size w w' := by
  obtain ⟨ba, Sa, rfl, _⟩ := h1.root
  obtain ⟨ca, Ta, rfl, _⟩ := h2.root
  obtain ⟨bb, Sb, rfl, _⟩ := h3.root
  obtain ⟨cb, Tb, rfl, _⟩ := h4.root
  have hE : Below w.heap.size w ((w.alloc (.cells #[.pointer (some ⟨ba, 0, none⟩), .pointer (some ⟨ca, 0, none⟩)] 96)).alloc (.cells #[.pointer (some ⟨bb, 0, none⟩), .pointer (some ⟨cb, 0, none⟩)] 96)) := allocs_below [.cells #[.pointer (some ⟨ba, 0, none⟩), .pointer (some ⟨ca, 0, none⟩)] 96, .cells #[.pointer (some ⟨bb, 0, none⟩), .pointer (some ⟨cb, 0, none⟩)] 96] w
  have HA := Lib.hid (show Blk ((w.alloc (.cells #[.pointer (some ⟨ba, 0, none⟩), .pointer (some ⟨ca, 0, none⟩)] 96)).alloc (.cells #[.pointer (some ⟨bb, 0, none⟩), .pointer (some ⟨cb, 0, none⟩)] 96)) (w.heap.size) (.cells #[.pointer (some ⟨ba, 0, none⟩), .pointer (some ⟨ca, 0, none⟩)] 96) from allocs_at [.cells #[.pointer (some ⟨ba, 0, none⟩), .pointer (some ⟨ca, 0, none⟩)] 96, .cells #[.pointer (some ⟨bb, 0, none⟩), .pointer (some ⟨cb, 0, none⟩)] 96] w 0 _ rfl)
  have HB := Lib.hid (show Blk ((w.alloc (.cells #[.pointer (some ⟨ba, 0, none⟩), .pointer (some ⟨ca, 0, none⟩)] 96)).alloc (.cells #[.pointer (some ⟨bb, 0, none⟩), .pointer (some ⟨cb, 0, none⟩)] 96)) (w.heap.size + 1) (.cells #[.pointer (some ⟨bb, 0, none⟩), .pointer (some ⟨cb, 0, none⟩)] 96) from allocs_at [.cells #[.pointer (some ⟨ba, 0, none⟩), .pointer (some ⟨ca, 0, none⟩)] 96, .cells #[.pointer (some ⟨bb, 0, none⟩), .pointer (some ⟨cb, 0, none⟩)] 96] w 1 _ rfl)
  have P1 := fun g : Grown ((w.alloc (.cells #[.pointer (some ⟨ba, 0, none⟩), .pointer (some ⟨ca, 0, none⟩)] 96)).alloc (.cells #[.pointer (some ⟨bb, 0, none⟩), .pointer (some ⟨cb, 0, none⟩)] 96)) => (h1.grow hE).grow g.h
  have P2 := fun g : Grown ((w.alloc (.cells #[.pointer (some ⟨ba, 0, none⟩), .pointer (some ⟨ca, 0, none⟩)] 96)).alloc (.cells #[.pointer (some ⟨bb, 0, none⟩), .pointer (some ⟨cb, 0, none⟩)] 96)) => (h2.grow hE).grow g.h
  have P3 := fun g : Grown ((w.alloc (.cells #[.pointer (some ⟨ba, 0, none⟩), .pointer (some ⟨ca, 0, none⟩)] 96)).alloc (.cells #[.pointer (some ⟨bb, 0, none⟩), .pointer (some ⟨cb, 0, none⟩)] 96)) => (h3.grow hE).grow g.h
  have P4 := fun g : Grown ((w.alloc (.cells #[.pointer (some ⟨ba, 0, none⟩), .pointer (some ⟨ca, 0, none⟩)] 96)).alloc (.cells #[.pointer (some ⟨bb, 0, none⟩), .pointer (some ⟨cb, 0, none⟩)] 96)) => (h4.grow hE).grow g.h
  have P1 := Lib.hid P1
  have P2 := Lib.hid P2
  have P3 := Lib.hid P3
  have P4 := Lib.hid P4
  have HE := Lib.hid hE
  have E1 := Lib.hid e1
  have E2 := Lib.hid e2
  have E3 := Lib.hid e3
  have E4 := Lib.hid e4
  clear h1 h2 h3 h4 e1 e2 e3 e4 hE
  unfold rl2
  simp only [Int.reduceEq, if_true, if_false]
  have ez : ((w.alloc (.cells #[.pointer (some ⟨ba, 0, none⟩), .pointer (some ⟨ca, 0, none⟩)] 96)).alloc (.cells #[.pointer (some ⟨bb, 0, none⟩), .pointer (some ⟨cb, 0, none⟩)] 96)).heap.size = w.heap.size + 1 + 1 := by rw [alloc_sz, alloc_sz]
  have EZ := Lib.hid ez
  clear ez
  go_enter Tryz.func106, Tryz.ntmps106
  go_wp2_with (fail)
  refine (apply2_ok 8 2 (((w.alloc (.cells #[.pointer (some ⟨ba, 0, none⟩), .pointer (some ⟨ca, 0, none⟩)] 96)).alloc (.cells #[.pointer (some ⟨bb, 0, none⟩), .pointer (some ⟨cb, 0, none⟩)] 96)).alloc (.cells #[.pointer (some ⟨ca, 0, none⟩), .pointer (some ⟨cb, 0, none⟩)] 69)) N (w.heap.size + 1 + 1) 0 _ _ a' b' (by have := (new_2 ((w.alloc (.cells #[.pointer (some ⟨ba, 0, none⟩), .pointer (some ⟨ca, 0, none⟩)] 96)).alloc (.cells #[.pointer (some ⟨bb, 0, none⟩), .pointer (some ⟨cb, 0, none⟩)] 96)) (.pointer (some ⟨ca, 0, none⟩)) (.pointer (some ⟨cb, 0, none⟩)) 69).1; rw [EZ.out] at this; exact this) (by have := (new_2 ((w.alloc (.cells #[.pointer (some ⟨ba, 0, none⟩), .pointer (some ⟨ca, 0, none⟩)] 96)).alloc (.cells #[.pointer (some ⟨bb, 0, none⟩), .pointer (some ⟨cb, 0, none⟩)] 96)) (.pointer (some ⟨ca, 0, none⟩)) (.pointer (some ⟨cb, 0, none⟩)) 69).2; rw [EZ.out] at this; exact this) ((P2.out ⟨_, Below.refl _ _⟩).al _) ((P4.out ⟨_, Below.refl _ _⟩).al _) E2.out E4.out (by omega) (by have := (P2.out ⟨_, Below.refl _ _⟩).fz; rw [EZ.out] at this; exact this)).mono ?_
  rintro e w2 ⟨z, rfl, hz, hx⟩
  have HZ2 := Lib.hid hz
  have HB2 := Lib.hid (below_then (HE.out.alloc HE.out.size (.cells #[.pointer (some ⟨ca, 0, none⟩), .pointer (some ⟨cb, 0, none⟩)] 69)) hx)
  clear hz hx
  go_wp2_with (fail)
  go_ret
  exact ⟨_, rfl, HZ2.out, HB2.out⟩
set_option maxHeartbeats 8000000 in
theorem rule4_ok (N : Int) (va ua vb ub : Value) (a a' b b' : Ex) (w : World) (h1 : TmP Fz w va a) (h2 : TmP Fz w ua a') (h3 : TmP Fz w vb b) (h4 : TmP Fz w ub b') (e1 : EV N a) (e2 : EV N a') (e3 : EV N b) (e4 : EV N b') :
    Calls Tryz.prog 107 #[.agg #[va, ua], .agg #[vb, ub]] w fun e w' => ∃ z, e = .returned z ∧ TmP Fz w' z (rl2 9 (a, a') (b, b')) ∧ Below w.heap.size w w' := by
  obtain ⟨ba, Sa, rfl, _⟩ := h1.root
  obtain ⟨ca, Ta, rfl, _⟩ := h2.root
  obtain ⟨bb, Sb, rfl, _⟩ := h3.root
  obtain ⟨cb, Tb, rfl, _⟩ := h4.root
  have hE : Below w.heap.size w ((w.alloc (.cells #[.pointer (some ⟨ba, 0, none⟩), .pointer (some ⟨ca, 0, none⟩)] 96)).alloc (.cells #[.pointer (some ⟨bb, 0, none⟩), .pointer (some ⟨cb, 0, none⟩)] 96)) := allocs_below [.cells #[.pointer (some ⟨ba, 0, none⟩), .pointer (some ⟨ca, 0, none⟩)] 96, .cells #[.pointer (some ⟨bb, 0, none⟩), .pointer (some ⟨cb, 0, none⟩)] 96] w
  have HA := Lib.hid (show Blk ((w.alloc (.cells #[.pointer (some ⟨ba, 0, none⟩), .pointer (some ⟨ca, 0, none⟩)] 96)).alloc (.cells #[.pointer (some ⟨bb, 0, none⟩), .pointer (some ⟨cb, 0, none⟩)] 96)) (w.heap.size) (.cells #[.pointer (some ⟨ba, 0, none⟩), .pointer (some ⟨ca, 0, none⟩)] 96) from allocs_at [.cells #[.pointer (some ⟨ba, 0, none⟩), .pointer (some ⟨ca, 0, none⟩)] 96, .cells #[.pointer (some ⟨bb, 0, none⟩), .pointer (some ⟨cb, 0, none⟩)] 96] w 0 _ rfl)
  have HB := Lib.hid (show Blk ((w.alloc (.cells #[.pointer (some ⟨ba, 0, none⟩), .pointer (some ⟨ca, 0, none⟩)] 96)).alloc (.cells #[.pointer (some ⟨bb, 0, none⟩), .pointer (some ⟨cb, 0, none⟩)] 96)) (w.heap.size + 1) (.cells #[.pointer (some ⟨bb, 0, none⟩), .pointer (some ⟨cb, 0, none⟩)] 96) from allocs_at [.cells #[.pointer (some ⟨ba, 0, none⟩), .pointer (some ⟨ca, 0, none⟩)] 96, .cells #[.pointer (some ⟨bb, 0, none⟩), .pointer (some ⟨cb, 0, none⟩)] 96] w 1 _ rfl)
  have P1 := fun g : Grown ((w.alloc (.cells #[.pointer (some ⟨ba, 0, none⟩), .pointer (some ⟨ca, 0, none⟩)] 96)).alloc (.cells #[.pointer (some ⟨bb, 0, none⟩), .pointer (some ⟨cb, 0, none⟩)] 96)) => (h1.grow hE).grow g.h
  have P2 := fun g : Grown ((w.alloc (.cells #[.pointer (some ⟨ba, 0, none⟩), .pointer (some ⟨ca, 0, none⟩)] 96)).alloc (.cells #[.pointer (some ⟨bb, 0, none⟩), .pointer (some ⟨cb, 0, none⟩)] 96)) => (h2.grow hE).grow g.h
  have P3 := fun g : Grown ((w.alloc (.cells #[.pointer (some ⟨ba, 0, none⟩), .pointer (some ⟨ca, 0, none⟩)] 96)).alloc (.cells #[.pointer (some ⟨bb, 0, none⟩), .pointer (some ⟨cb, 0, none⟩)] 96)) => (h3.grow hE).grow g.h
  have P4 := fun g : Grown ((w.alloc (.cells #[.pointer (some ⟨ba, 0, none⟩), .pointer (some ⟨ca, 0, none⟩)] 96)).alloc (.cells #[.pointer (some ⟨bb, 0, none⟩), .pointer (some ⟨cb, 0, none⟩)] 96)) => (h4.grow hE).grow g.h
  have P1 := Lib.hid P1
  have P2 := Lib.hid P2
  have P3 := Lib.hid P3
  have P4 := Lib.hid P4
  have HE := Lib.hid hE
  have E1 := Lib.hid e1
  have E2 := Lib.hid e2
  have E3 := Lib.hid e3
  have E4 := Lib.hid e4
  clear h1 h2 h3 h4 e1 e2 e3 e4 hE
  unfold rl2
  simp only [Int.reduceEq, if_true, if_false]
  have fa0 := fun g : Grown ((w.alloc (.cells #[.pointer (some ⟨ba, 0, none⟩), .pointer (some ⟨ca, 0, none⟩)] 96)).alloc (.cells #[.pointer (some ⟨bb, 0, none⟩), .pointer (some ⟨cb, 0, none⟩)] 96)) => heapN_cellj (HA.out.grow g.h) (k := 0) rfl
  have fa1 := fun g : Grown ((w.alloc (.cells #[.pointer (some ⟨ba, 0, none⟩), .pointer (some ⟨ca, 0, none⟩)] 96)).alloc (.cells #[.pointer (some ⟨bb, 0, none⟩), .pointer (some ⟨cb, 0, none⟩)] 96)) => heapN_cellj (HA.out.grow g.h) (k := 1) rfl
  have fb0 := fun g : Grown ((w.alloc (.cells #[.pointer (some ⟨ba, 0, none⟩), .pointer (some ⟨ca, 0, none⟩)] 96)).alloc (.cells #[.pointer (some ⟨bb, 0, none⟩), .pointer (some ⟨cb, 0, none⟩)] 96)) => heapN_cellj (HB.out.grow g.h) (k := 0) rfl
  have fb1 := fun g : Grown ((w.alloc (.cells #[.pointer (some ⟨ba, 0, none⟩), .pointer (some ⟨ca, 0, none⟩)] 96)).alloc (.cells #[.pointer (some ⟨bb, 0, none⟩), .pointer (some ⟨cb, 0, none⟩)] 96)) => heapN_cellj (HB.out.grow g.h) (k := 1) rfl
  go_enter Tryz.func107, Tryz.ntmps107
  go_wp2_with (fail)
  refine region_pred (lk [(5, fun z_ _ => z_ = .pointer (some ⟨w.heap.size, 1, none⟩)), (6, fun z_ _ => z_ = .pointer (some ⟨ca, 0, none⟩)), (7, fun z_ _ => z_ = .pointer (some ⟨w.heap.size + 1, 0, none⟩)), (8, fun z_ _ => z_ = .pointer (some ⟨bb, 0, none⟩)), (9, fun z_ w_ => Tm2 Fz w_ z_ (a') (b)), (10, fun z_ w_ => TmQ Fz w_ z_ (s2 (ndo 9) a' b)), (11, fun z_ _ => z_ = .pointer (some ⟨w.heap.size, 0, none⟩)), (12, fun z_ _ => z_ = .pointer (some ⟨ba, 0, none⟩)), (13, fun z_ _ => z_ = .pointer (some ⟨w.heap.size + 1, 1, none⟩)), (14, fun z_ _ => z_ = .pointer (some ⟨cb, 0, none⟩)), (15, fun z_ w_ => Tm2 Fz w_ z_ (a) (b')), (16, fun z_ w_ => TmQ Fz w_ z_ (s2 (ndo 9) a b')), (17, fun z_ w_ => Tm2 Fz w_ z_ (s2 (ndo 9) a' b) (s2 (ndo 9) a b')), (18, fun z_ w_ => TmQ Fz w_ z_ (s2 (ndo 7) (s2 (ndo 9) a' b) (s2 (ndo 9) a b'))), (4, fun z_ w_ => TmQ Fz w_ z_ (s2 (ndo 7) (s2 (ndo 9) a' b) (s2 (ndo 9) a b')))]) (by kernel_rfl) (by kernel_rfl) (lk_steady _ ⟨steady_eq _, steady_eq _, steady_eq _, steady_eq _, steady_tm2 _ _, steady_tmq _, steady_eq _, steady_eq _, steady_eq _, steady_eq _, steady_tm2 _ _, steady_tmq _, steady_tm2 _ _, steady_tmq _, steady_tmq _, trivial⟩) ?_ ?_
  · refine ⟨?_, ?_, ?_, ?_, ?_, ?_, ?_, ?_, ?_, ?_, ?_, ?_, ?_, ?_, ?_, trivial⟩
    · refine ob_plain [2] rfl rfl fun aa g h => ?_
      have yy0 := seen_out (v := .pointer (some ⟨w.heap.size, 0, none⟩)) rfl rfl h.1
      have ee0 := getD_of yy0
      exact tupon_value (v := .pointer (some ⟨w.heap.size, 1, none⟩)) (by simp [go_sem, ee0, yy0]) (Below.refl _ _) rfl
    · refine ob_plain [5] rfl rfl fun aa g h => ?_
      obtain ⟨_, yy0, rfl⟩ := seen_in rfl h.1
      have ee0 := getD_of yy0
      exact tupon_value (v := .pointer (some ⟨ca, 0, none⟩)) (by simp [go_sem, ee0, yy0, fa1 g]) (Below.refl _ _) rfl
    · refine ob_plain [3] rfl rfl fun aa g h => ?_
      have yy0 := seen_out (v := .pointer (some ⟨w.heap.size + 1, 0, none⟩)) rfl rfl h.1
      have ee0 := getD_of yy0
      exact tupon_value (v := .pointer (some ⟨w.heap.size + 1, 0, none⟩)) (by simp [go_sem, ee0, yy0]) (Below.refl _ _) rfl
    · refine ob_plain [7] rfl rfl fun aa g h => ?_
      obtain ⟨_, yy0, rfl⟩ := seen_in rfl h.1
      have ee0 := getD_of yy0
      exact tupon_value (v := .pointer (some ⟨bb, 0, none⟩)) (by simp [go_sem, ee0, yy0, fb0 g]) (Below.refl _ _) rfl
    · refine ob_plain [6, 8] rfl rfl fun aa g h => ?_
      obtain ⟨_, yy0, rfl⟩ := seen_in rfl h.1
      have ee0 := getD_of yy0
      obtain ⟨_, yy1, rfl⟩ := seen_in rfl h.2.1
      have ee1 := getD_of yy1
      exact tupon_value (v := .slice (some ⟨g.w.heap.size, 0, none⟩) 2 2) (w1 := g.w.alloc (.cells #[.pointer (some ⟨ca, 0, none⟩), .pointer (some ⟨bb, 0, none⟩)] 69)) (by simp [go_sem, ee0, yy0, ee1, yy1]) ((Below.refl _ _).alloc (Nat.le_refl _) _) ⟨_, _, _, rfl, (new_2 _ _ _ _).1, (new_2 _ _ _ _).2, (P2.out g).al _, (P3.out g).al _, (P2.out g).fz⟩
    · refine ob_plain [9] rfl rfl fun aa g h => ?_
      obtain ⟨_, yy0, ⟨X9, u9, v9, rfl, hc9, hd9, hp9, hq9, hf9⟩⟩ := seen_in rfl h.1
      have ee0 := getD_of yy0
      refine tupon_enter (f := 104) (args := #[.int .i64 9, .slice (some ⟨X9, 0, none⟩) 2 2]) (by simp [go_sem, ee0, yy0]) rfl ?_
      exact (apply2_ok 9 2 g.w N X9 0 u9 v9 (a') (b) hc9 hd9 hp9 hq9 (E2.out) (E3.out) (by omega) hf9).mono fun e w' ⟨z, he, hz, hB⟩ => ⟨_, he, hB, tmq_of hz⟩
    · refine ob_plain [2] rfl rfl fun aa g h => ?_
      have yy0 := seen_out (v := .pointer (some ⟨w.heap.size, 0, none⟩)) rfl rfl h.1
      have ee0 := getD_of yy0
      exact tupon_value (v := .pointer (some ⟨w.heap.size, 0, none⟩)) (by simp [go_sem, ee0, yy0]) (Below.refl _ _) rfl
    · refine ob_plain [11] rfl rfl fun aa g h => ?_
      obtain ⟨_, yy0, rfl⟩ := seen_in rfl h.1
      have ee0 := getD_of yy0
      exact tupon_value (v := .pointer (some ⟨ba, 0, none⟩)) (by simp [go_sem, ee0, yy0, fa0 g]) (Below.refl _ _) rfl
    · refine ob_plain [3] rfl rfl fun aa g h => ?_
      have yy0 := seen_out (v := .pointer (some ⟨w.heap.size + 1, 0, none⟩)) rfl rfl h.1
      have ee0 := getD_of yy0
      exact tupon_value (v := .pointer (some ⟨w.heap.size + 1, 1, none⟩)) (by simp [go_sem, ee0, yy0]) (Below.refl _ _) rfl
    · refine ob_plain [13] rfl rfl fun aa g h => ?_
      obtain ⟨_, yy0, rfl⟩ := seen_in rfl h.1
      have ee0 := getD_of yy0
      exact tupon_value (v := .pointer (some ⟨cb, 0, none⟩)) (by simp [go_sem, ee0, yy0, fb1 g]) (Below.refl _ _) rfl
    · refine ob_plain [12, 14] rfl rfl fun aa g h => ?_
      obtain ⟨_, yy0, rfl⟩ := seen_in rfl h.1
      have ee0 := getD_of yy0
      obtain ⟨_, yy1, rfl⟩ := seen_in rfl h.2.1
      have ee1 := getD_of yy1
      exact tupon_value (v := .slice (some ⟨g.w.heap.size, 0, none⟩) 2 2) (w1 := g.w.alloc (.cells #[.pointer (some ⟨ba, 0, none⟩), .pointer (some ⟨cb, 0, none⟩)] 69)) (by simp [go_sem, ee0, yy0, ee1, yy1]) ((Below.refl _ _).alloc (Nat.le_refl _) _) ⟨_, _, _, rfl, (new_2 _ _ _ _).1, (new_2 _ _ _ _).2, (P1.out g).al _, (P4.out g).al _, (P1.out g).fz⟩
    · refine ob_plain [15] rfl rfl fun aa g h => ?_
      obtain ⟨_, yy0, ⟨X15, u15, v15, rfl, hc15, hd15, hp15, hq15, hf15⟩⟩ := seen_in rfl h.1
      have ee0 := getD_of yy0
      refine tupon_enter (f := 104) (args := #[.int .i64 9, .slice (some ⟨X15, 0, none⟩) 2 2]) (by simp [go_sem, ee0, yy0]) rfl ?_
      exact (apply2_ok 9 2 g.w N X15 0 u15 v15 (a) (b') hc15 hd15 hp15 hq15 (E1.out) (E4.out) (by omega) hf15).mono fun e w' ⟨z, he, hz, hB⟩ => ⟨_, he, hB, tmq_of hz⟩
    · refine ob_plain [10, 16] rfl rfl fun aa g h => ?_
      obtain ⟨_, yy0, ⟨b10, rfl, hz10⟩⟩ := seen_in rfl h.1
      have ee0 := getD_of yy0
      obtain ⟨_, yy1, ⟨b16, rfl, hz16⟩⟩ := seen_in rfl h.2.1
      have ee1 := getD_of yy1
      exact tupon_value (v := .slice (some ⟨g.w.heap.size, 0, none⟩) 2 2) (w1 := g.w.alloc (.cells #[.pointer (some ⟨b10, 0, none⟩), .pointer (some ⟨b16, 0, none⟩)] 69)) (by simp [go_sem, ee0, yy0, ee1, yy1]) ((Below.refl _ _).alloc (Nat.le_refl _) _) ⟨_, _, _, rfl, (new_2 _ _ _ _).1, (new_2 _ _ _ _).2, (hz10).al _, (hz16).al _, (hz10).fz⟩
    · refine ob_plain [17] rfl rfl fun aa g h => ?_
      obtain ⟨_, yy0, ⟨X17, u17, v17, rfl, hc17, hd17, hp17, hq17, hf17⟩⟩ := seen_in rfl h.1
      have ee0 := getD_of yy0
      refine tupon_enter (f := 104) (args := #[.int .i64 7, .slice (some ⟨X17, 0, none⟩) 2 2]) (by simp [go_sem, ee0, yy0]) rfl ?_
      exact (apply2_ok 7 2 g.w N X17 0 u17 v17 (s2 (ndo 9) a' b) (s2 (ndo 9) a b') hc17 hd17 hp17 hq17 (a2_ev (by omega) E2.out E3.out) (a2_ev (by omega) E1.out E4.out) (by omega) hf17).mono fun e w' ⟨z, he, hz, hB⟩ => ⟨_, he, hB, tmq_of hz⟩
    · refine ob_plain [18] rfl rfl fun aa g h => ?_
      obtain ⟨_, yy0, ⟨b18, rfl, hz18⟩⟩ := seen_in rfl h.1
      have ee0 := getD_of yy0
      exact tupon_value (v := .pointer (some ⟨b18, 0, none⟩)) (by simp [go_sem, ee0, yy0]) (Below.refl _ _) ⟨_, rfl, hz18⟩
  rintro w5 hB _ rfl _ rfl _ rfl _ rfl _ ⟨X9, u9, v9, rfl, hc9, hd9, hp9, hq9, hf9⟩ _ ⟨b10, rfl, hz10⟩ _ rfl _ rfl _ rfl _ rfl _ ⟨X15, u15, v15, rfl, hc15, hd15, hp15, hq15, hf15⟩ _ ⟨b16, rfl, hz16⟩ _ ⟨X17, u17, v17, rfl, hc17, hd17, hp17, hq17, hf17⟩ _ ⟨b18, rfl, hz18⟩ _ ⟨b4, rfl, hz4⟩
  simp only [Act.put, List.setIfInBounds_toArray, List.set_cons_succ, List.set_cons_zero, List.filterMap_nil, finP]
  have HZ := Lib.hid hz4
  have HB5 := Lib.hid (below_then HE.out hB)
  clear hB hz4
  go_wp2_with (fail)
  go_ret
  exact ⟨_, rfl, HZ.out, HB5.out⟩
set_option maxHeartbeats 8000000 in
theorem rule5_ok (N : Int) (va ua vb ub : Value) (a a' b b' : Ex) (w : World) (h1 : TmP Fz w va a) (h2 : TmP Fz w ua a') (h3 : TmP Fz w vb b) (h4 : TmP Fz w ub b') (e1 : EV N a) (e2 : EV N a') (e3 : EV N b) (e4 : EV N b') :
    Calls Tryz.prog 108 #[.agg #[va, ua], .agg #[vb, ub]] w fun e w' => ∃ z, e = .returned z ∧ TmP Fz w' z (rl2 10 (a, a') (b, b')) ∧ Below w.heap.size w w' := by
  obtain ⟨ba, Sa, rfl, _⟩ := h1.root
  obtain ⟨ca, Ta, rfl, _⟩ := h2.root
  obtain ⟨bb, Sb, rfl, _⟩ := h3.root
  obtain ⟨cb, Tb, rfl, _⟩ := h4.root
  have hE : Below w.heap.size w ((w.alloc (.cells #[.pointer (some ⟨ba, 0, none⟩), .pointer (some ⟨ca, 0, none⟩)] 96)).alloc (.cells #[.pointer (some ⟨bb, 0, none⟩), .pointer (some ⟨cb, 0, none⟩)] 96)) := allocs_below [.cells #[.pointer (some ⟨ba, 0, none⟩), .pointer (some ⟨ca, 0, none⟩)] 96, .cells #[.pointer (some ⟨bb, 0, none⟩), .pointer (some ⟨cb, 0, none⟩)] 96] w
  have HA := Lib.hid (show Blk ((w.alloc (.cells #[.pointer (some ⟨ba, 0, none⟩), .pointer (some ⟨ca, 0, none⟩)] 96)).alloc (.cells #[.pointer (some ⟨bb, 0, none⟩), .pointer (some ⟨cb, 0, none⟩)] 96)) (w.heap.size) (.cells #[.pointer (some ⟨ba, 0, none⟩), .pointer (some ⟨ca, 0, none⟩)] 96) from allocs_at [.cells #[.pointer (some ⟨ba, 0, none⟩), .pointer (some ⟨ca, 0, none⟩)] 96, .cells #[.pointer (some ⟨bb, 0, none⟩), .pointer (some ⟨cb, 0, none⟩)] 96] w 0 _ rfl)
  have HB := Lib.hid (show Blk ((w.alloc (.cells #[.pointer (some ⟨ba, 0, none⟩), .pointer (some ⟨ca, 0, none⟩)] 96)).alloc (.cells #[.pointer (some ⟨bb, 0, none⟩), .pointer (some ⟨cb, 0, none⟩)] 96)) (w.heap.size + 1) (.cells #[.pointer (some ⟨bb, 0, none⟩), .pointer (some ⟨cb, 0, none⟩)] 96) from allocs_at [.cells #[.pointer (some ⟨ba, 0, none⟩), .pointer (some ⟨ca, 0, none⟩)] 96, .cells #[.pointer (some ⟨bb, 0, none⟩), .pointer (some ⟨cb, 0, none⟩)] 96] w 1 _ rfl)
  have P1 := fun g : Grown ((w.alloc (.cells #[.pointer (some ⟨ba, 0, none⟩), .pointer (some ⟨ca, 0, none⟩)] 96)).alloc (.cells #[.pointer (some ⟨bb, 0, none⟩), .pointer (some ⟨cb, 0, none⟩)] 96)) => (h1.grow hE).grow g.h
  have P2 := fun g : Grown ((w.alloc (.cells #[.pointer (some ⟨ba, 0, none⟩), .pointer (some ⟨ca, 0, none⟩)] 96)).alloc (.cells #[.pointer (some ⟨bb, 0, none⟩), .pointer (some ⟨cb, 0, none⟩)] 96)) => (h2.grow hE).grow g.h
  have P3 := fun g : Grown ((w.alloc (.cells #[.pointer (some ⟨ba, 0, none⟩), .pointer (some ⟨ca, 0, none⟩)] 96)).alloc (.cells #[.pointer (some ⟨bb, 0, none⟩), .pointer (some ⟨cb, 0, none⟩)] 96)) => (h3.grow hE).grow g.h
  have P4 := fun g : Grown ((w.alloc (.cells #[.pointer (some ⟨ba, 0, none⟩), .pointer (some ⟨ca, 0, none⟩)] 96)).alloc (.cells #[.pointer (some ⟨bb, 0, none⟩), .pointer (some ⟨cb, 0, none⟩)] 96)) => (h4.grow hE).grow g.h
  have P1 := Lib.hid P1
  have P2 := Lib.hid P2
  have P3 := Lib.hid P3
  have P4 := Lib.hid P4
  have HE := Lib.hid hE
  have E1 := Lib.hid e1
  have E2 := Lib.hid e2
  have E3 := Lib.hid e3
  have E4 := Lib.hid e4
  clear h1 h2 h3 h4 e1 e2 e3 e4 hE
  unfold rl2
  simp only [Int.reduceEq, if_true, if_false]
  have fa0 := fun g : Grown ((w.alloc (.cells #[.pointer (some ⟨ba, 0, none⟩), .pointer (some ⟨ca, 0, none⟩)] 96)).alloc (.cells #[.pointer (some ⟨bb, 0, none⟩), .pointer (some ⟨cb, 0, none⟩)] 96)) => heapN_cellj (HA.out.grow g.h) (k := 0) rfl
  have fa1 := fun g : Grown ((w.alloc (.cells #[.pointer (some ⟨ba, 0, none⟩), .pointer (some ⟨ca, 0, none⟩)] 96)).alloc (.cells #[.pointer (some ⟨bb, 0, none⟩), .pointer (some ⟨cb, 0, none⟩)] 96)) => heapN_cellj (HA.out.grow g.h) (k := 1) rfl
  have fb0 := fun g : Grown ((w.alloc (.cells #[.pointer (some ⟨ba, 0, none⟩), .pointer (some ⟨ca, 0, none⟩)] 96)).alloc (.cells #[.pointer (some ⟨bb, 0, none⟩), .pointer (some ⟨cb, 0, none⟩)] 96)) => heapN_cellj (HB.out.grow g.h) (k := 0) rfl
  have fb1 := fun g : Grown ((w.alloc (.cells #[.pointer (some ⟨ba, 0, none⟩), .pointer (some ⟨ca, 0, none⟩)] 96)).alloc (.cells #[.pointer (some ⟨bb, 0, none⟩), .pointer (some ⟨cb, 0, none⟩)] 96)) => heapN_cellj (HB.out.grow g.h) (k := 1) rfl
  go_enter Tryz.func108, Tryz.ntmps108
  go_wp2_with (fail)
  refine region_pred (lk [(6, fun z_ _ => z_ = .pointer (some ⟨w.heap.size, 1, none⟩)), (7, fun z_ _ => z_ = .pointer (some ⟨ca, 0, none⟩)), (8, fun z_ _ => z_ = .pointer (some ⟨w.heap.size + 1, 0, none⟩)), (9, fun z_ _ => z_ = .pointer (some ⟨bb, 0, none⟩)), (10, fun z_ w_ => Tm2 Fz w_ z_ (a') (b)), (11, fun z_ w_ => TmQ Fz w_ z_ (s2 (ndo 9) a' b)), (12, fun z_ _ => z_ = .pointer (some ⟨w.heap.size, 0, none⟩)), (13, fun z_ _ => z_ = .pointer (some ⟨ba, 0, none⟩)), (14, fun z_ _ => z_ = .pointer (some ⟨w.heap.size + 1, 1, none⟩)), (15, fun z_ _ => z_ = .pointer (some ⟨cb, 0, none⟩)), (16, fun z_ w_ => Tm2 Fz w_ z_ (a) (b')), (17, fun z_ w_ => TmQ Fz w_ z_ (s2 (ndo 9) a b')), (18, fun z_ w_ => Tm2 Fz w_ z_ (s2 (ndo 9) a' b) (s2 (ndo 9) a b')), (19, fun z_ w_ => TmQ Fz w_ z_ (s2 (ndo 8) (s2 (ndo 9) a' b) (s2 (ndo 9) a b'))), (5, fun z_ w_ => TmQ Fz w_ z_ (s2 (ndo 8) (s2 (ndo 9) a' b) (s2 (ndo 9) a b')))]) (by kernel_rfl) (by kernel_rfl) (lk_steady _ ⟨steady_eq _, steady_eq _, steady_eq _, steady_eq _, steady_tm2 _ _, steady_tmq _, steady_eq _, steady_eq _, steady_eq _, steady_eq _, steady_tm2 _ _, steady_tmq _, steady_tm2 _ _, steady_tmq _, steady_tmq _, trivial⟩) ?_ ?_
  · refine ⟨?_, ?_, ?_, ?_, ?_, ?_, ?_, ?_, ?_, ?_, ?_, ?_, ?_, ?_, ?_, trivial⟩
    · refine ob_plain [2] rfl rfl fun aa g h => ?_
      have yy0 := seen_out (v := .pointer (some ⟨w.heap.size, 0, none⟩)) rfl rfl h.1
      have ee0 := getD_of yy0
      exact tupon_value (v := .pointer (some ⟨w.heap.size, 1, none⟩)) (by simp [go_sem, ee0, yy0]) (Below.refl _ _) rfl
    · refine ob_plain [6] rfl rfl fun aa g h => ?_
      obtain ⟨_, yy0, rfl⟩ := seen_in rfl h.1
      have ee0 := getD_of yy0
      exact tupon_value (v := .pointer (some ⟨ca, 0, none⟩)) (by simp [go_sem, ee0, yy0, fa1 g]) (Below.refl _ _) rfl
    · refine ob_plain [3] rfl rfl fun aa g h => ?_
      have yy0 := seen_out (v := .pointer (some ⟨w.heap.size + 1, 0, none⟩)) rfl rfl h.1
      have ee0 := getD_of yy0
      exact tupon_value (v := .pointer (some ⟨w.heap.size + 1, 0, none⟩)) (by simp [go_sem, ee0, yy0]) (Below.refl _ _) rfl
    · refine ob_plain [8] rfl rfl fun aa g h => ?_
      obtain ⟨_, yy0, rfl⟩ := seen_in rfl h.1
      have ee0 := getD_of yy0
      exact tupon_value (v := .pointer (some ⟨bb, 0, none⟩)) (by simp [go_sem, ee0, yy0, fb0 g]) (Below.refl _ _) rfl
    · refine ob_plain [7, 9] rfl rfl fun aa g h => ?_
      obtain ⟨_, yy0, rfl⟩ := seen_in rfl h.1
      have ee0 := getD_of yy0
      obtain ⟨_, yy1, rfl⟩ := seen_in rfl h.2.1
      have ee1 := getD_of yy1
      exact tupon_value (v := .slice (some ⟨g.w.heap.size, 0, none⟩) 2 2) (w1 := g.w.alloc (.cells #[.pointer (some ⟨ca, 0, none⟩), .pointer (some ⟨bb, 0, none⟩)] 69)) (by simp [go_sem, ee0, yy0, ee1, yy1]) ((Below.refl _ _).alloc (Nat.le_refl _) _) ⟨_, _, _, rfl, (new_2 _ _ _ _).1, (new_2 _ _ _ _).2, (P2.out g).al _, (P3.out g).al _, (P2.out g).fz⟩
    · refine ob_plain [10] rfl rfl fun aa g h => ?_
      obtain ⟨_, yy0, ⟨X10, u10, v10, rfl, hc10, hd10, hp10, hq10, hf10⟩⟩ := seen_in rfl h.1
      have ee0 := getD_of yy0
      refine tupon_enter (f := 104) (args := #[.int .i64 9, .slice (some ⟨X10, 0, none⟩) 2 2]) (by simp [go_sem, ee0, yy0]) rfl ?_
      exact (apply2_ok 9 2 g.w N X10 0 u10 v10 (a') (b) hc10 hd10 hp10 hq10 (E2.out) (E3.out) (by omega) hf10).mono fun e w' ⟨z, he, hz, hB⟩ => ⟨_, he, hB, tmq_of hz⟩
    · refine ob_plain [2] rfl rfl fun aa g h => ?_
      have yy0 := seen_out (v := .pointer (some ⟨w.heap.size, 0, none⟩)) rfl rfl h.1
      have ee0 := getD_of yy0
      exact tupon_value (v := .pointer (some ⟨w.heap.size, 0, none⟩)) (by simp [go_sem, ee0, yy0]) (Below.refl _ _) rfl
    · refine ob_plain [12] rfl rfl fun aa g h => ?_
      obtain ⟨_, yy0, rfl⟩ := seen_in rfl h.1
      have ee0 := getD_of yy0
      exact tupon_value (v := .pointer (some ⟨ba, 0, none⟩)) (by simp [go_sem, ee0, yy0, fa0 g]) (Below.refl _ _) rfl
    · refine ob_plain [3] rfl rfl fun aa g h => ?_
      have yy0 := seen_out (v := .pointer (some ⟨w.heap.size + 1, 0, none⟩)) rfl rfl h.1
      have ee0 := getD_of yy0
      exact tupon_value (v := .pointer (some ⟨w.heap.size + 1, 1, none⟩)) (by simp [go_sem, ee0, yy0]) (Below.refl _ _) rfl
    · refine ob_plain [14] rfl rfl fun aa g h => ?_
      obtain ⟨_, yy0, rfl⟩ := seen_in rfl h.1
      have ee0 := getD_of yy0
      exact tupon_value (v := .pointer (some ⟨cb, 0, none⟩)) (by simp [go_sem, ee0, yy0, fb1 g]) (Below.refl _ _) rfl
    · refine ob_plain [13, 15] rfl rfl fun aa g h => ?_
      obtain ⟨_, yy0, rfl⟩ := seen_in rfl h.1
      have ee0 := getD_of yy0
      obtain ⟨_, yy1, rfl⟩ := seen_in rfl h.2.1
      have ee1 := getD_of yy1
      exact tupon_value (v := .slice (some ⟨g.w.heap.size, 0, none⟩) 2 2) (w1 := g.w.alloc (.cells #[.pointer (some ⟨ba, 0, none⟩), .pointer (some ⟨cb, 0, none⟩)] 69)) (by simp [go_sem, ee0, yy0, ee1, yy1]) ((Below.refl _ _).alloc (Nat.le_refl _) _) ⟨_, _, _, rfl, (new_2 _ _ _ _).1, (new_2 _ _ _ _).2, (P1.out g).al _, (P4.out g).al _, (P1.out g).fz⟩
    · refine ob_plain [16] rfl rfl fun aa g h => ?_
      obtain ⟨_, yy0, ⟨X16, u16, v16, rfl, hc16, hd16, hp16, hq16, hf16⟩⟩ := seen_in rfl h.1
      have ee0 := getD_of yy0
      refine tupon_enter (f := 104) (args := #[.int .i64 9, .slice (some ⟨X16, 0, none⟩) 2 2]) (by simp [go_sem, ee0, yy0]) rfl ?_
      exact (apply2_ok 9 2 g.w N X16 0 u16 v16 (a) (b') hc16 hd16 hp16 hq16 (E1.out) (E4.out) (by omega) hf16).mono fun e w' ⟨z, he, hz, hB⟩ => ⟨_, he, hB, tmq_of hz⟩
    · refine ob_plain [11, 17] rfl rfl fun aa g h => ?_
      obtain ⟨_, yy0, ⟨b11, rfl, hz11⟩⟩ := seen_in rfl h.1
      have ee0 := getD_of yy0
      obtain ⟨_, yy1, ⟨b17, rfl, hz17⟩⟩ := seen_in rfl h.2.1
      have ee1 := getD_of yy1
      exact tupon_value (v := .slice (some ⟨g.w.heap.size, 0, none⟩) 2 2) (w1 := g.w.alloc (.cells #[.pointer (some ⟨b11, 0, none⟩), .pointer (some ⟨b17, 0, none⟩)] 69)) (by simp [go_sem, ee0, yy0, ee1, yy1]) ((Below.refl _ _).alloc (Nat.le_refl _) _) ⟨_, _, _, rfl, (new_2 _ _ _ _).1, (new_2 _ _ _ _).2, (hz11).al _, (hz17).al _, (hz11).fz⟩
    · refine ob_plain [18] rfl rfl fun aa g h => ?_
      obtain ⟨_, yy0, ⟨X18, u18, v18, rfl, hc18, hd18, hp18, hq18, hf18⟩⟩ := seen_in rfl h.1
      have ee0 := getD_of yy0
      refine tupon_enter (f := 104) (args := #[.int .i64 8, .slice (some ⟨X18, 0, none⟩) 2 2]) (by simp [go_sem, ee0, yy0]) rfl ?_
      exact (apply2_ok 8 2 g.w N X18 0 u18 v18 (s2 (ndo 9) a' b) (s2 (ndo 9) a b') hc18 hd18 hp18 hq18 (a2_ev (by omega) E2.out E3.out) (a2_ev (by omega) E1.out E4.out) (by omega) hf18).mono fun e w' ⟨z, he, hz, hB⟩ => ⟨_, he, hB, tmq_of hz⟩
    · refine ob_plain [19] rfl rfl fun aa g h => ?_
      obtain ⟨_, yy0, ⟨b19, rfl, hz19⟩⟩ := seen_in rfl h.1
      have ee0 := getD_of yy0
      exact tupon_value (v := .pointer (some ⟨b19, 0, none⟩)) (by simp [go_sem, ee0, yy0]) (Below.refl _ _) ⟨_, rfl, hz19⟩
  rintro w5 hB _ rfl _ rfl _ rfl _ rfl _ ⟨X10, u10, v10, rfl, hc10, hd10, hp10, hq10, hf10⟩ _ ⟨b11, rfl, hz11⟩ _ rfl _ rfl _ rfl _ rfl _ ⟨X16, u16, v16, rfl, hc16, hd16, hp16, hq16, hf16⟩ _ ⟨b17, rfl, hz17⟩ _ ⟨X18, u18, v18, rfl, hc18, hd18, hp18, hq18, hf18⟩ _ ⟨b19, rfl, hz19⟩ _ ⟨b5, rfl, hz5⟩
  simp only [Act.put, List.setIfInBounds_toArray, List.set_cons_succ, List.set_cons_zero, List.filterMap_nil, finP]
  have HZ := Lib.hid hz5
  have HB5 := Lib.hid (below_then HE.out hB)
  have p3 : TmP Fz w5 (.pointer (some ⟨bb, 0, none⟩)) b := P3.out ⟨_, hB⟩
  have hb5 := HB.out.grow hB
  have y0 := heapN_cellj hb5 (k := 0) (u := .pointer (some ⟨bb, 0, none⟩)) rfl
  have Q3 := Lib.hid p3
  clear hB hz5 hz19 hz17 hz11 p3 hb5 fa0 fa1 fb0 fb1 P1 P2 P3 P4 HA HB hc10 hd10 hp10 hq10 hc16 hd16 hp16 hq16 hc18 hd18 hp18 hq18
  go_wp2_with (fail)
  refine (apply1_ok 5 1 (w5.alloc (.cells #[.pointer (some ⟨bb, 0, none⟩)] 69)) N w5.heap.size 0 _ b (new_1 _ _ _) (Q3.out.al _) E3.out (by omega) Q3.out.fz).mono ?_
  rintro e w6 ⟨z, rfl, hz, hx⟩
  obtain ⟨b6, S6, rfl, _⟩ := hz.root
  have HZ6 := Lib.hid hz
  have hA : Below w5.heap.size w5 (w5.alloc (.cells #[.pointer (some ⟨bb, 0, none⟩)] 69)) := (Below.refl _ _).alloc (Nat.le_refl _) _
  have HB6 := Lib.hid (below_then hA hx)
  clear hz hx hA
  go_wp2_with (fail)
  refine (apply2_ok 10 2 (w6.alloc (.cells #[.pointer (some ⟨b5, 0, none⟩), .pointer (some ⟨b6, 0, none⟩)] 69)) N w6.heap.size 0 _ _ _ _ (new_2 _ _ _ _).1 (new_2 _ _ _ _).2 ((HZ.out.grow HB6.out).al _) (HZ6.out.al _) (a2_ev (by omega) (a2_ev (by omega) E2.out E3.out) (a2_ev (by omega) E1.out E4.out)) (a1_ev (by omega) E3.out) (by omega) HZ6.out.fz).mono ?_
  rintro e w7 ⟨z, rfl, hz, hx⟩
  have HZ7 := Lib.hid hz
  have hA : Below w6.heap.size w6 (w6.alloc (.cells #[.pointer (some ⟨b5, 0, none⟩), .pointer (some ⟨b6, 0, none⟩)] 69)) := (Below.refl _ _).alloc (Nat.le_refl _) _
  have HB7 := Lib.hid (below_then HB5.out (below_then HB6.out (below_then hA hx)))
  clear hz hx hA
  go_wp2_with (fail)
  go_ret
  exact ⟨_, rfl, HZ7.out, HB7.out⟩
set_option maxHeartbeats 8000000 in
theorem rule6_ok (N : Int) (va ua vb ub : Value) (a a' b b' : Ex) (w : World) (h1 : TmP Fz w va a) (h2 : TmP Fz w ua a') (h3 : TmP Fz w vb b) (h4 : TmP Fz w ub b') (e1 : EV N a) (e2 : EV N a') (e3 : EV N b) (e4 : EV N b') :
    Calls Tryz.prog 109 #[.agg #[va, ua], .agg #[vb, ub]] w fun e w' => ∃ z, e = .returned z ∧ TmP Fz w' z (rl1 5 (a, a')) ∧ Below w.heap.size w w' := by
  obtain ⟨ba, Sa, rfl, _⟩ := h1.root
  obtain ⟨ca, Ta, rfl, _⟩ := h2.root
  obtain ⟨bb, Sb, rfl, _⟩ := h3.root
  obtain ⟨cb, Tb, rfl, _⟩ := h4.root
  have hE : Below w.heap.size w ((w.alloc (.cells #[.pointer (some ⟨ba, 0, none⟩), .pointer (some ⟨ca, 0, none⟩)] 96)).alloc (.cells #[.pointer (some ⟨bb, 0, none⟩), .pointer (some ⟨cb, 0, none⟩)] 96)) := allocs_below [.cells #[.pointer (some ⟨ba, 0, none⟩), .pointer (some ⟨ca, 0, none⟩)] 96, .cells #[.pointer (some ⟨bb, 0, none⟩), .pointer (some ⟨cb, 0, none⟩)] 96] w
  have HA := Lib.hid (show Blk ((w.alloc (.cells #[.pointer (some ⟨ba, 0, none⟩), .pointer (some ⟨ca, 0, none⟩)] 96)).alloc (.cells #[.pointer (some ⟨bb, 0, none⟩), .pointer (some ⟨cb, 0, none⟩)] 96)) (w.heap.size) (.cells #[.pointer (some ⟨ba, 0, none⟩), .pointer (some ⟨ca, 0, none⟩)] 96) from allocs_at [.cells #[.pointer (some ⟨ba, 0, none⟩), .pointer (some ⟨ca, 0, none⟩)] 96, .cells #[.pointer (some ⟨bb, 0, none⟩), .pointer (some ⟨cb, 0, none⟩)] 96] w 0 _ rfl)
  have HB := Lib.hid (show Blk ((w.alloc (.cells #[.pointer (some ⟨ba, 0, none⟩), .pointer (some ⟨ca, 0, none⟩)] 96)).alloc (.cells #[.pointer (some ⟨bb, 0, none⟩), .pointer (some ⟨cb, 0, none⟩)] 96)) (w.heap.size + 1) (.cells #[.pointer (some ⟨bb, 0, none⟩), .pointer (some ⟨cb, 0, none⟩)] 96) from allocs_at [.cells #[.pointer (some ⟨ba, 0, none⟩), .pointer (some ⟨ca, 0, none⟩)] 96, .cells #[.pointer (some ⟨bb, 0, none⟩), .pointer (some ⟨cb, 0, none⟩)] 96] w 1 _ rfl)
  have P1 := fun g : Grown ((w.alloc (.cells #[.pointer (some ⟨ba, 0, none⟩), .pointer (some ⟨ca, 0, none⟩)] 96)).alloc (.cells #[.pointer (some ⟨bb, 0, none⟩), .pointer (some ⟨cb, 0, none⟩)] 96)) => (h1.grow hE).grow g.h
  have P2 := fun g : Grown ((w.alloc (.cells #[.pointer (some ⟨ba, 0, none⟩), .pointer (some ⟨ca, 0, none⟩)] 96)).alloc (.cells #[.pointer (some ⟨bb, 0, none⟩), .pointer (some ⟨cb, 0, none⟩)] 96)) => (h2.grow hE).grow g.h
  have P3 := fun g : Grown ((w.alloc (.cells #[.pointer (some ⟨ba, 0, none⟩), .pointer (some ⟨ca, 0, none⟩)] 96)).alloc (.cells #[.pointer (some ⟨bb, 0, none⟩), .pointer (some ⟨cb, 0, none⟩)] 96)) => (h3.grow hE).grow g.h
  have P4 := fun g : Grown ((w.alloc (.cells #[.pointer (some ⟨ba, 0, none⟩), .pointer (some ⟨ca, 0, none⟩)] 96)).alloc (.cells #[.pointer (some ⟨bb, 0, none⟩), .pointer (some ⟨cb, 0, none⟩)] 96)) => (h4.grow hE).grow g.h
  have P1 := Lib.hid P1
  have P2 := Lib.hid P2
  have P3 := Lib.hid P3
  have P4 := Lib.hid P4
  have HE := Lib.hid hE
  have E1 := Lib.hid e1
  have E2 := Lib.hid e2
  have E3 := Lib.hid e3
  have E4 := Lib.hid e4
  clear h1 h2 h3 h4 e1 e2 e3 e4 hE
  unfold rl1
  simp only [Int.reduceEq, if_true, if_false]
  have fa0 := fun g : Grown ((w.alloc (.cells #[.pointer (some ⟨ba, 0, none⟩), .pointer (some ⟨ca, 0, none⟩)] 96)).alloc (.cells #[.pointer (some ⟨bb, 0, none⟩), .pointer (some ⟨cb, 0, none⟩)] 96)) => heapN_cellj (HA.out.grow g.h) (k := 0) rfl
  have fa1 := fun g : Grown ((w.alloc (.cells #[.pointer (some ⟨ba, 0, none⟩), .pointer (some ⟨ca, 0, none⟩)] 96)).alloc (.cells #[.pointer (some ⟨bb, 0, none⟩), .pointer (some ⟨cb, 0, none⟩)] 96)) => heapN_cellj (HA.out.grow g.h) (k := 1) rfl
  have fb0 := fun g : Grown ((w.alloc (.cells #[.pointer (some ⟨ba, 0, none⟩), .pointer (some ⟨ca, 0, none⟩)] 96)).alloc (.cells #[.pointer (some ⟨bb, 0, none⟩), .pointer (some ⟨cb, 0, none⟩)] 96)) => heapN_cellj (HB.out.grow g.h) (k := 0) rfl
  have fb1 := fun g : Grown ((w.alloc (.cells #[.pointer (some ⟨ba, 0, none⟩), .pointer (some ⟨ca, 0, none⟩)] 96)).alloc (.cells #[.pointer (some ⟨bb, 0, none⟩), .pointer (some ⟨cb, 0, none⟩)] 96)) => heapN_cellj (HB.out.grow g.h) (k := 1) rfl
  go_enter Tryz.func109, Tryz.ntmps109
  go_wp2_with (fail)
  refine region_pred (lk [(5, fun z_ _ => z_ = .pointer (some ⟨w.heap.size, 0, none⟩)), (6, fun z_ _ => z_ = .pointer (some ⟨ba, 0, none⟩)), (7, fun z_ w_ => TmQ Fz w_ z_ (s2 (ndo 9) (pt 131072) (a))), (8, fun z_ _ => z_ = .pointer (some ⟨w.heap.size, 1, none⟩)), (9, fun z_ _ => z_ = .pointer (some ⟨ca, 0, none⟩)), (10, fun z_ w_ => Tm2 Fz w_ z_ (s2 (ndo 9) (pt 131072) (a)) (a')), (11, fun z_ w_ => TmQ Fz w_ z_ (s2 (ndo 9) (s2 (ndo 9) (pt 131072) (a)) a')), (4, fun z_ w_ => TmQ Fz w_ z_ (s2 (ndo 9) (s2 (ndo 9) (pt 131072) (a)) a'))]) (by kernel_rfl) (by kernel_rfl) (lk_steady _ ⟨steady_eq _, steady_eq _, steady_tmq _, steady_eq _, steady_eq _, steady_tm2 _ _, steady_tmq _, steady_tmq _, trivial⟩) ?_ ?_
  · refine ⟨?_, ?_, ?_, ?_, ?_, ?_, ?_, ?_, trivial⟩
    · refine ob_plain [2] rfl rfl fun aa g h => ?_
      have yy0 := seen_out (v := .pointer (some ⟨w.heap.size, 0, none⟩)) rfl rfl h.1
      have ee0 := getD_of yy0
      exact tupon_value (v := .pointer (some ⟨w.heap.size, 0, none⟩)) (by simp [go_sem, ee0, yy0]) (Below.refl _ _) rfl
    · refine ob_plain [5] rfl rfl fun aa g h => ?_
      obtain ⟨_, yy0, rfl⟩ := seen_in rfl h.1
      have ee0 := getD_of yy0
      exact tupon_value (v := .pointer (some ⟨ba, 0, none⟩)) (by simp [go_sem, ee0, yy0, fa0 g]) (Below.refl _ _) rfl
    · refine ob_plain [6] rfl rfl fun aa g h => ?_
      obtain ⟨_, yy0, rfl⟩ := seen_in rfl h.1
      have ee0 := getD_of yy0
      refine tupon_enter (f := 110) (args := #[.pointer (some ⟨ba, 0, none⟩)]) (by simp [go_sem, ee0, yy0]) rfl ?_
      exact (twice_ok N _ (a) g.w (P1.out g) (E1.out)).mono fun e w' ⟨z, he, hz, hB⟩ => ⟨_, he, hB, tmq_of hz⟩
    · refine ob_plain [2] rfl rfl fun aa g h => ?_
      have yy0 := seen_out (v := .pointer (some ⟨w.heap.size, 0, none⟩)) rfl rfl h.1
      have ee0 := getD_of yy0
      exact tupon_value (v := .pointer (some ⟨w.heap.size, 1, none⟩)) (by simp [go_sem, ee0, yy0]) (Below.refl _ _) rfl
    · refine ob_plain [8] rfl rfl fun aa g h => ?_
      obtain ⟨_, yy0, rfl⟩ := seen_in rfl h.1
      have ee0 := getD_of yy0
      exact tupon_value (v := .pointer (some ⟨ca, 0, none⟩)) (by simp [go_sem, ee0, yy0, fa1 g]) (Below.refl _ _) rfl
    · refine ob_plain [7, 9] rfl rfl fun aa g h => ?_
      obtain ⟨_, yy0, ⟨b7, rfl, hz7⟩⟩ := seen_in rfl h.1
      have ee0 := getD_of yy0
      obtain ⟨_, yy1, rfl⟩ := seen_in rfl h.2.1
      have ee1 := getD_of yy1
      exact tupon_value (v := .slice (some ⟨g.w.heap.size, 0, none⟩) 2 2) (w1 := g.w.alloc (.cells #[.pointer (some ⟨b7, 0, none⟩), .pointer (some ⟨ca, 0, none⟩)] 69)) (by simp [go_sem, ee0, yy0, ee1, yy1]) ((Below.refl _ _).alloc (Nat.le_refl _) _) ⟨_, _, _, rfl, (new_2 _ _ _ _).1, (new_2 _ _ _ _).2, (hz7).al _, (P2.out g).al _, (hz7).fz⟩
    · refine ob_plain [10] rfl rfl fun aa g h => ?_
      obtain ⟨_, yy0, ⟨X10, u10, v10, rfl, hc10, hd10, hp10, hq10, hf10⟩⟩ := seen_in rfl h.1
      have ee0 := getD_of yy0
      refine tupon_enter (f := 104) (args := #[.int .i64 9, .slice (some ⟨X10, 0, none⟩) 2 2]) (by simp [go_sem, ee0, yy0]) rfl ?_
      exact (apply2_ok 9 2 g.w N X10 0 u10 v10 (s2 (ndo 9) (pt 131072) (a)) (a') hc10 hd10 hp10 hq10 (a2_ev (by omega) (pt_ev (by decide)) E1.out) (E2.out) (by omega) hf10).mono fun e w' ⟨z, he, hz, hB⟩ => ⟨_, he, hB, tmq_of hz⟩
    · refine ob_plain [11] rfl rfl fun aa g h => ?_
      obtain ⟨_, yy0, ⟨b11, rfl, hz11⟩⟩ := seen_in rfl h.1
      have ee0 := getD_of yy0
      exact tupon_value (v := .pointer (some ⟨b11, 0, none⟩)) (by simp [go_sem, ee0, yy0]) (Below.refl _ _) ⟨_, rfl, hz11⟩
  rintro w5 hB _ rfl _ rfl _ ⟨b7, rfl, hz7⟩ _ rfl _ rfl _ ⟨X10, u10, v10, rfl, hc10, hd10, hp10, hq10, hf10⟩ _ ⟨b11, rfl, hz11⟩ _ ⟨b4, rfl, hz4⟩
  simp only [Act.put, List.setIfInBounds_toArray, List.set_cons_succ, List.set_cons_zero, List.filterMap_nil, finP]
  have HZ := Lib.hid hz4
  have HB5 := Lib.hid (below_then HE.out hB)
  clear hB hz4
  go_wp2_with (fail)
  go_ret
  exact ⟨_, rfl, HZ.out, HB5.out⟩
set_option maxHeartbeats 8000000 in
theorem rule7_ok (N : Int) (va ua vb ub : Value) (a a' b b' : Ex) (w : World) (h1 : TmP Fz w va a) (h2 : TmP Fz w ua a') (h3 : TmP Fz w vb b) (h4 : TmP Fz w ub b') (e1 : EV N a) (e2 : EV N a') (e3 : EV N b) (e4 : EV N b') :
    Calls Tryz.prog 111 #[.agg #[va, ua], .agg #[vb, ub]] w fun e w' => ∃ z, e = .returned z ∧ TmP Fz w' z (rl1 6 (a, a')) ∧ Below w.heap.size w w' := by
  obtain ⟨ba, Sa, rfl, _⟩ := h1.root
  obtain ⟨ca, Ta, rfl, _⟩ := h2.root
  obtain ⟨bb, Sb, rfl, _⟩ := h3.root
  obtain ⟨cb, Tb, rfl, _⟩ := h4.root
  have hE : Below w.heap.size w ((w.alloc (.cells #[.pointer (some ⟨ba, 0, none⟩), .pointer (some ⟨ca, 0, none⟩)] 96)).alloc (.cells #[.pointer (some ⟨bb, 0, none⟩), .pointer (some ⟨cb, 0, none⟩)] 96)) := allocs_below [.cells #[.pointer (some ⟨ba, 0, none⟩), .pointer (some ⟨ca, 0, none⟩)] 96, .cells #[.pointer (some ⟨bb, 0, none⟩), .pointer (some ⟨cb, 0, none⟩)] 96] w
  have HA := Lib.hid (show Blk ((w.alloc (.cells #[.pointer (some ⟨ba, 0, none⟩), .pointer (some ⟨ca, 0, none⟩)] 96)).alloc (.cells #[.pointer (some ⟨bb, 0, none⟩), .pointer (some ⟨cb, 0, none⟩)] 96)) (w.heap.size) (.cells #[.pointer (some ⟨ba, 0, none⟩), .pointer (some ⟨ca, 0, none⟩)] 96) from allocs_at [.cells #[.pointer (some ⟨ba, 0, none⟩), .pointer (some ⟨ca, 0, none⟩)] 96, .cells #[.pointer (some ⟨bb, 0, none⟩), .pointer (some ⟨cb, 0, none⟩)] 96] w 0 _ rfl)
  have HB := Lib.hid (show Blk ((w.alloc (.cells #[.pointer (some ⟨ba, 0, none⟩), .pointer (some ⟨ca, 0, none⟩)] 96)).alloc (.cells #[.pointer (some ⟨bb, 0, none⟩), .pointer (some ⟨cb, 0, none⟩)] 96)) (w.heap.size + 1) (.cells #[.pointer (some ⟨bb, 0, none⟩), .pointer (some ⟨cb, 0, none⟩)] 96) from allocs_at [.cells #[.pointer (some ⟨ba, 0, none⟩), .pointer (some ⟨ca, 0, none⟩)] 96, .cells #[.pointer (some ⟨bb, 0, none⟩), .pointer (some ⟨cb, 0, none⟩)] 96] w 1 _ rfl)
  have P1 := fun g : Grown ((w.alloc (.cells #[.pointer (some ⟨ba, 0, none⟩), .pointer (some ⟨ca, 0, none⟩)] 96)).alloc (.cells #[.pointer (some ⟨bb, 0, none⟩), .pointer (some ⟨cb, 0, none⟩)] 96)) => (h1.grow hE).grow g.h
  have P2 := fun g : Grown ((w.alloc (.cells #[.pointer (some ⟨ba, 0, none⟩), .pointer (some ⟨ca, 0, none⟩)] 96)).alloc (.cells #[.pointer (some ⟨bb, 0, none⟩), .pointer (some ⟨cb, 0, none⟩)] 96)) => (h2.grow hE).grow g.h
  have P3 := fun g : Grown ((w.alloc (.cells #[.pointer (some ⟨ba, 0, none⟩), .pointer (some ⟨ca, 0, none⟩)] 96)).alloc (.cells #[.pointer (some ⟨bb, 0, none⟩), .pointer (some ⟨cb, 0, none⟩)] 96)) => (h3.grow hE).grow g.h
  have P4 := fun g : Grown ((w.alloc (.cells #[.pointer (some ⟨ba, 0, none⟩), .pointer (some ⟨ca, 0, none⟩)] 96)).alloc (.cells #[.pointer (some ⟨bb, 0, none⟩), .pointer (some ⟨cb, 0, none⟩)] 96)) => (h4.grow hE).grow g.h
  have P1 := Lib.hid P1
  have P2 := Lib.hid P2
  have P3 := Lib.hid P3
  have P4 := Lib.hid P4
  have HE := Lib.hid hE
  have E1 := Lib.hid e1
  have E2 := Lib.hid e2
  have E3 := Lib.hid e3
  have E4 := Lib.hid e4
  clear h1 h2 h3 h4 e1 e2 e3 e4 hE
  unfold rl1
  simp only [Int.reduceEq, if_true, if_false]
  have fa0 := fun g : Grown ((w.alloc (.cells #[.pointer (some ⟨ba, 0, none⟩), .pointer (some ⟨ca, 0, none⟩)] 96)).alloc (.cells #[.pointer (some ⟨bb, 0, none⟩), .pointer (some ⟨cb, 0, none⟩)] 96)) => heapN_cellj (HA.out.grow g.h) (k := 0) rfl
  have fa1 := fun g : Grown ((w.alloc (.cells #[.pointer (some ⟨ba, 0, none⟩), .pointer (some ⟨ca, 0, none⟩)] 96)).alloc (.cells #[.pointer (some ⟨bb, 0, none⟩), .pointer (some ⟨cb, 0, none⟩)] 96)) => heapN_cellj (HA.out.grow g.h) (k := 1) rfl
  have fb0 := fun g : Grown ((w.alloc (.cells #[.pointer (some ⟨ba, 0, none⟩), .pointer (some ⟨ca, 0, none⟩)] 96)).alloc (.cells #[.pointer (some ⟨bb, 0, none⟩), .pointer (some ⟨cb, 0, none⟩)] 96)) => heapN_cellj (HB.out.grow g.h) (k := 0) rfl
  have fb1 := fun g : Grown ((w.alloc (.cells #[.pointer (some ⟨ba, 0, none⟩), .pointer (some ⟨ca, 0, none⟩)] 96)).alloc (.cells #[.pointer (some ⟨bb, 0, none⟩), .pointer (some ⟨cb, 0, none⟩)] 96)) => heapN_cellj (HB.out.grow g.h) (k := 1) rfl
  go_enter Tryz.func111, Tryz.ntmps111
  go_wp2_with (fail)
  refine region_pred (lk [(5, fun z_ _ => z_ = .pointer (some ⟨w.heap.size, 1, none⟩)), (6, fun z_ _ => z_ = .pointer (some ⟨ca, 0, none⟩)), (7, fun z_ _ => z_ = .pointer (some ⟨w.heap.size, 0, none⟩)), (8, fun z_ _ => z_ = .pointer (some ⟨ba, 0, none⟩)), (9, fun z_ w_ => Tm1 Fz w_ z_ (a)), (10, fun z_ w_ => TmQ Fz w_ z_ (s1 (ndo 6) a)), (11, fun z_ w_ => TmQ Fz w_ z_ (s2 (ndo 9) (pt 131072) (s1 (ndo 6) a))), (12, fun z_ w_ => Tm2 Fz w_ z_ (a') (s2 (ndo 9) (pt 131072) (s1 (ndo 6) a))), (13, fun z_ w_ => TmQ Fz w_ z_ (s2 (ndo 10) a' (s2 (ndo 9) (pt 131072) (s1 (ndo 6) a)))), (4, fun z_ w_ => TmQ Fz w_ z_ (s2 (ndo 10) a' (s2 (ndo 9) (pt 131072) (s1 (ndo 6) a))))]) (by kernel_rfl) (by kernel_rfl) (lk_steady _ ⟨steady_eq _, steady_eq _, steady_eq _, steady_eq _, steady_tm1 _, steady_tmq _, steady_tmq _, steady_tm2 _ _, steady_tmq _, steady_tmq _, trivial⟩) ?_ ?_
  · refine ⟨?_, ?_, ?_, ?_, ?_, ?_, ?_, ?_, ?_, ?_, trivial⟩
    · refine ob_plain [2] rfl rfl fun aa g h => ?_
      have yy0 := seen_out (v := .pointer (some ⟨w.heap.size, 0, none⟩)) rfl rfl h.1
      have ee0 := getD_of yy0
      exact tupon_value (v := .pointer (some ⟨w.heap.size, 1, none⟩)) (by simp [go_sem, ee0, yy0]) (Below.refl _ _) rfl
    · refine ob_plain [5] rfl rfl fun aa g h => ?_
      obtain ⟨_, yy0, rfl⟩ := seen_in rfl h.1
      have ee0 := getD_of yy0
      exact tupon_value (v := .pointer (some ⟨ca, 0, none⟩)) (by simp [go_sem, ee0, yy0, fa1 g]) (Below.refl _ _) rfl
    · refine ob_plain [2] rfl rfl fun aa g h => ?_
      have yy0 := seen_out (v := .pointer (some ⟨w.heap.size, 0, none⟩)) rfl rfl h.1
      have ee0 := getD_of yy0
      exact tupon_value (v := .pointer (some ⟨w.heap.size, 0, none⟩)) (by simp [go_sem, ee0, yy0]) (Below.refl _ _) rfl
    · refine ob_plain [7] rfl rfl fun aa g h => ?_
      obtain ⟨_, yy0, rfl⟩ := seen_in rfl h.1
      have ee0 := getD_of yy0
      exact tupon_value (v := .pointer (some ⟨ba, 0, none⟩)) (by simp [go_sem, ee0, yy0, fa0 g]) (Below.refl _ _) rfl
    · refine ob_plain [8] rfl rfl fun aa g h => ?_
      obtain ⟨_, yy0, rfl⟩ := seen_in rfl h.1
      have ee0 := getD_of yy0
      exact tupon_value (v := .slice (some ⟨g.w.heap.size, 0, none⟩) 1 1) (w1 := g.w.alloc (.cells #[.pointer (some ⟨ba, 0, none⟩)] 69)) (by simp [go_sem, ee0, yy0]) ((Below.refl _ _).alloc (Nat.le_refl _) _) ⟨_, _, rfl, new_1 _ _ _, (P1.out g).al _, (P1.out g).fz⟩
    · refine ob_plain [9] rfl rfl fun aa g h => ?_
      obtain ⟨_, yy0, ⟨X9, u9, rfl, hc9, hp9, hf9⟩⟩ := seen_in rfl h.1
      have ee0 := getD_of yy0
      refine tupon_enter (f := 104) (args := #[.int .i64 6, .slice (some ⟨X9, 0, none⟩) 1 1]) (by simp [go_sem, ee0, yy0]) rfl ?_
      exact (apply1_ok 6 1 g.w N X9 0 u9 (a) hc9 hp9 (E1.out) (by omega) hf9).mono fun e w' ⟨z, he, hz, hB⟩ => ⟨_, he, hB, tmq_of hz⟩
    · refine ob_plain [10] rfl rfl fun aa g h => ?_
      obtain ⟨_, yy0, ⟨b10, rfl, hz10⟩⟩ := seen_in rfl h.1
      have ee0 := getD_of yy0
      refine tupon_enter (f := 110) (args := #[.pointer (some ⟨b10, 0, none⟩)]) (by simp [go_sem, ee0, yy0]) rfl ?_
      exact (twice_ok N _ (s1 (ndo 6) a) g.w (hz10) (a1_ev (by omega) E1.out)).mono fun e w' ⟨z, he, hz, hB⟩ => ⟨_, he, hB, tmq_of hz⟩
    · refine ob_plain [6, 11] rfl rfl fun aa g h => ?_
      obtain ⟨_, yy0, rfl⟩ := seen_in rfl h.1
      have ee0 := getD_of yy0
      obtain ⟨_, yy1, ⟨b11, rfl, hz11⟩⟩ := seen_in rfl h.2.1
      have ee1 := getD_of yy1
      exact tupon_value (v := .slice (some ⟨g.w.heap.size, 0, none⟩) 2 2) (w1 := g.w.alloc (.cells #[.pointer (some ⟨ca, 0, none⟩), .pointer (some ⟨b11, 0, none⟩)] 69)) (by simp [go_sem, ee0, yy0, ee1, yy1]) ((Below.refl _ _).alloc (Nat.le_refl _) _) ⟨_, _, _, rfl, (new_2 _ _ _ _).1, (new_2 _ _ _ _).2, (P2.out g).al _, (hz11).al _, (P2.out g).fz⟩
    · refine ob_plain [12] rfl rfl fun aa g h => ?_
      obtain ⟨_, yy0, ⟨X12, u12, v12, rfl, hc12, hd12, hp12, hq12, hf12⟩⟩ := seen_in rfl h.1
      have ee0 := getD_of yy0
      refine tupon_enter (f := 104) (args := #[.int .i64 10, .slice (some ⟨X12, 0, none⟩) 2 2]) (by simp [go_sem, ee0, yy0]) rfl ?_
      exact (apply2_ok 10 2 g.w N X12 0 u12 v12 (a') (s2 (ndo 9) (pt 131072) (s1 (ndo 6) a)) hc12 hd12 hp12 hq12 (E2.out) (a2_ev (by omega) (pt_ev (by decide)) (a1_ev (by omega) E1.out)) (by omega) hf12).mono fun e w' ⟨z, he, hz, hB⟩ => ⟨_, he, hB, tmq_of hz⟩
    · refine ob_plain [13] rfl rfl fun aa g h => ?_
      obtain ⟨_, yy0, ⟨b13, rfl, hz13⟩⟩ := seen_in rfl h.1
      have ee0 := getD_of yy0
      exact tupon_value (v := .pointer (some ⟨b13, 0, none⟩)) (by simp [go_sem, ee0, yy0]) (Below.refl _ _) ⟨_, rfl, hz13⟩
  rintro w5 hB _ rfl _ rfl _ rfl _ rfl _ ⟨X9, u9, rfl, hc9, hp9, hf9⟩ _ ⟨b10, rfl, hz10⟩ _ ⟨b11, rfl, hz11⟩ _ ⟨X12, u12, v12, rfl, hc12, hd12, hp12, hq12, hf12⟩ _ ⟨b13, rfl, hz13⟩ _ ⟨b4, rfl, hz4⟩
  simp only [Act.put, List.setIfInBounds_toArray, List.set_cons_succ, List.set_cons_zero, List.filterMap_nil, finP]
  have HZ := Lib.hid hz4
  have HB5 := Lib.hid (below_then HE.out hB)
  clear hB hz4
  go_wp2_with (fail)
  go_ret
  exact ⟨_, rfl, HZ.out, HB5.out⟩
def FpJ (mb n : Nat) (M : Int → Option Nat) (W : World) : Prop := ∃ D, W.ownsMap Tryz.prog 3 elF mb n D ∧ MpK M D
section
variable {mb n : Nat} {M : Int → Option Nat} {W W' : World}
theorem FpJ.get (h : FpJ mb n M W) {i : Int} (hi : W64 i) {b : Nat} (hb : M i = some b) : (Instr.lookup 93 (.map (some mb)) (.int .i64 i) false).run Tryz.prog W = .ok (.func (.func b) #[] #[]) W := by
  obtain ⟨D, h1, h2⟩ := h
  obtain ⟨z, hz⟩ : ∃ z, ∀ w, (zeroValue 99).run Tryz.prog w = .ok z w := ⟨_, fun w => rfl⟩
  obtain ⟨zd, zp, hzd⟩ : ∃ zd zp, elF z = some (zd, zp) := by
    unfold elF
    split
    · exact ⟨_, _, rfl⟩
    · exact ⟨_, _, rfl⟩
  obtain ⟨v, ps, hrun, hv⟩ := h1.lookup lawZ Tryz.underlying93 (z := z) (hz W) (zd := zd) (zp := zp) hzd (keyZ hi)
  rw [(h2.2 i hi).2 b hb] at hv
  obtain rfl := elF_inv hv
  exact hrun
theorem FpJ.put (h : FpJ mb n M W) {i : Int} (hi : W64 i) (a : Nat) (hn : n < maxLen) : ∃ w8, (Instr.mapUpdate 93 (.map (some mb)) (.int .i64 i) (.func (.func a) #[] #[])).run Tryz.prog W = .ok () w8 ∧ FpJ mb (n + 1) (updM M i a) w8 ∧ W.grownBy w8 (some mb) := by
  obtain ⟨D, h1, h2⟩ := h
  obtain ⟨w8, hrun, m8, g8⟩ := h1.update (val := .func (.func a) #[] #[]) lawZ Tryz.underlying93 hn (keyZ hi) (d := dN a) (ps := []) rfl
  exact ⟨w8, hrun, ⟨_, m8, mpK_put h2 i a⟩, g8⟩
theorem FpJ.kept {row : Option Nat} (h : FpJ mb n M W) (hg : W.grownBy W' row) (hne : some mb ≠ row) : FpJ mb n M W' := by
  obtain ⟨D, h1, h2⟩ := h
  exact ⟨D, h1.kept hg hne, h2⟩
theorem FpJ.lt (h : FpJ mb n M W) : mb < W.heap.size := by
  obtain ⟨D, h1, _⟩ := h
  exact h1.lt
theorem FpJ.new (W : World) : FpJ W.heap.size 0 (fun _ => none) (W.alloc (.map #[] 0)) := ⟨_, World.ownsMap_made (H := Unit) W Tryz.prog 3 elF, mpK_start⟩
theorem FpJ.grow (h : FpJ mb n M W) (hB : Below W.heap.size W W') : FpJ mb n M W' := h.kept (grown_belowN hB) (by simp)
end
/-- The rules. -/
def ruleM : Int → Option Nat := (updM (updM (updM (updM (updM (updM (updM (fun _ => none) 4 103) 7 105) 8 106) 9 107) 10 108) 5 109) 6 111)
theorem ruleM_at : ruleM 4 = some 103 ∧ ruleM 7 = some 105 ∧ ruleM 8 = some 106 ∧ ruleM 9 = some 107 ∧ ruleM 10 = some 108 ∧ ruleM 5 = some 109 ∧ ruleM 6 = some 111 := by
  unfold ruleM updM
  simp
set_option maxHeartbeats 4000000 in
theorem rules_ok (w : World) : Calls Tryz.prog 76 #[] w fun e w' => ∃ bm, e = .returned (.map (some bm)) ∧ w.heap.size ≤ bm ∧ FpJ bm 7 ruleM w' ∧ Below w.heap.size w w' := by
  have hmm := @run_makeMap Tryz.prog
  obtain ⟨w1, r1, h1, g1⟩ := (FpJ.new w).put (i := 4) (by unfold W64; omega) 103 (by decide)
  obtain ⟨w2, r2, h2, g2⟩ := h1.put (i := 7) (by unfold W64; omega) 105 (by decide)
  obtain ⟨w3, r3, h3, g3⟩ := h2.put (i := 8) (by unfold W64; omega) 106 (by decide)
  obtain ⟨w4, r4, h4, g4⟩ := h3.put (i := 9) (by unfold W64; omega) 107 (by decide)
  obtain ⟨w5, r5, h5, g5⟩ := h4.put (i := 10) (by unfold W64; omega) 108 (by decide)
  obtain ⟨w6, r6, h6, g6⟩ := h5.put (i := 5) (by unfold W64; omega) 109 (by decide)
  obtain ⟨w7, r7, h7, g7⟩ := h6.put (i := 6) (by unfold W64; omega) 111 (by decide)
  have hB : Below w.heap.size w w7 := by
    have b0 : Below w.heap.size w (w.alloc (.map #[] 0)) := (Below.refl _ _).alloc (Nat.le_refl _) _
    have hk : ∀ k, some w.heap.size = some k → w.heap.size ≤ k := fun k hk => by cases hk; exact Nat.le_refl _
    have b1 := b0.grown g1 b0.size hk
    have b2 := b1.grown g2 b1.size hk
    have b3 := b2.grown g3 b2.size hk
    have b4 := b3.grown g4 b3.size hk
    have b5 := b4.grown g5 b4.size hk
    have b6 := b5.grown g6 b5.size hk
    have b7 := b6.grown g7 b6.size hk
    exact b7
  have H4 := Lib.hid h7
  have HB := Lib.hid hB
  clear h1 h2 h3 h4 h5 h6 h7 g1 g2 g3 g4 g5 g6 g7 hB
  go_enter Tryz.func76, Tryz.ntmps76
  go_wp2_with (fail)
  go_ret
  exact ⟨_, rfl, Nat.le_refl _, H4.out, HB.out⟩
end Go.Proofs.YtbppfohcicepcaaGreat
