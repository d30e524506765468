/-
  Package poly: Var, joined; the law's t.
-/
import Derived.Test.YthakeeinhgfbbaaGreatTu
import Derived.RangeFuncRecord
namespace Go.Proofs.YthakeeinhgfbbaaGreat
open Go.ChangeShapes Go.WideShapes Go.ChangeAt Go.RowKit
set_option linter.unusedVariables false
set_option linter.unusedSimpArgs false
set_option maxRecDepth 100000

attribute [local irreducible] Calls
def varT (i : Int) : List Tm := if 0 ≤ i ∧ i < 6 then [(65536, ([0, 0, 0, 0, 0, 0] : List Int).set i.toNat 1)] else []
set_option maxHeartbeats 4000000 in
theorem var_ok (i : Int) (w : World) :
    Calls Tryz.prog 82 #[.int .i64 i] w fun e w' => ∃ u, e = .returned u ∧ Tx w' u (varT i) ∧ Below w.heap.size w w' := by
  by_cases h0 : i < 0
  · rw [show varT i = [] by unfold varT; rw [if_neg (by omega)]]
    have h1 : ¬ 0 ≤ i := by omega
    go_enter Tryz.func82, Tryz.ntmps82
    go_wp2_with (fail)
    go_ret
    exact ⟨_, rfl, Tx.nil _ _ _, by go_grown⟩
  · have h0' : 0 ≤ i := by omega
    by_cases h6 : 6 ≤ i
    · rw [show varT i = [] by unfold varT; rw [if_neg (by omega)]]
      go_enter Tryz.func82, Tryz.ntmps82
      go_wp2_with (fail)
      go_ret
      exact ⟨_, rfl, Tx.nil _ _ _, by go_grown⟩
    · rcases (show i = 0 ∨ i = 1 ∨ i = 2 ∨ i = 3 ∨ i = 4 ∨ i = 5 by omega) with rfl | rfl | rfl | rfl | rfl | rfl
      all_goals
        clear h0 h0' h6
        go_enter Tryz.func82, Tryz.ntmps82
        go_wp2_with (fail)
        go_ret
      · have := tx_lit (w.alloc (.cells #[.int .u8 1, .int .u8 0, .int .u8 0, .int .u8 0, .int .u8 0, .int .u8 0] 61)) 65536 1 0 0 0 0 0
        rw [World.size_alloc] at this
        exact ⟨.slice (some ⟨w.heap.size + 1, 0, none⟩) 1 1, rfl, this, by go_grown⟩
      · have := tx_lit (w.alloc (.cells #[.int .u8 0, .int .u8 1, .int .u8 0, .int .u8 0, .int .u8 0, .int .u8 0] 61)) 65536 0 1 0 0 0 0
        rw [World.size_alloc] at this
        exact ⟨.slice (some ⟨w.heap.size + 1, 0, none⟩) 1 1, rfl, this, by go_grown⟩
      · have := tx_lit (w.alloc (.cells #[.int .u8 0, .int .u8 0, .int .u8 1, .int .u8 0, .int .u8 0, .int .u8 0] 61)) 65536 0 0 1 0 0 0
        rw [World.size_alloc] at this
        exact ⟨.slice (some ⟨w.heap.size + 1, 0, none⟩) 1 1, rfl, this, by go_grown⟩
      · have := tx_lit (w.alloc (.cells #[.int .u8 0, .int .u8 0, .int .u8 0, .int .u8 1, .int .u8 0, .int .u8 0] 61)) 65536 0 0 0 1 0 0
        rw [World.size_alloc] at this
        exact ⟨.slice (some ⟨w.heap.size + 1, 0, none⟩) 1 1, rfl, this, by go_grown⟩
      · have := tx_lit (w.alloc (.cells #[.int .u8 0, .int .u8 0, .int .u8 0, .int .u8 0, .int .u8 1, .int .u8 0] 61)) 65536 0 0 0 0 1 0
        rw [World.size_alloc] at this
        exact ⟨.slice (some ⟨w.heap.size + 1, 0, none⟩) 1 1, rfl, this, by go_grown⟩
      · have := tx_lit (w.alloc (.cells #[.int .u8 0, .int .u8 0, .int .u8 0, .int .u8 0, .int .u8 0, .int .u8 1] 61)) 65536 0 0 0 0 0 1
        rw [World.size_alloc] at this
        exact ⟨.slice (some ⟨w.heap.size + 1, 0, none⟩) 1 1, rfl, this, by go_grown⟩
/-- Six bytes in a block. -/
def ByB (W : World) (b : Nat) (l : List Int) : Prop := W.heap[b]? = some (.cells (l.map (.int .u8 ·)).toArray 61 (0, 0))
theorem heapT_set {W : World} {a : Addr} {u : Value} {k : Nat} (h : k ≠ a.block) : (W.setCell a u).heap[k]? = W.heap[k]? := Below.heap_setCell _ _ _ k h
theorem cellsT_set {W : World} {b o : Nat} {cs : Array Value} {t : TypeId} {z : Nat × Nat} {u : Value} (h : W.heap[b]? = some (.cells cs t z)) : (W.setCell ⟨b, o, none⟩ u).heap[b]? = some (.cells (cs.setIfInBounds o u) t z) := by
  obtain ⟨hlt, hk⟩ := Array.getElem?_eq_some_iff.1 h
  show (W.heap.modify b _)[b]? = _
  rw [Array.getElem?_eq_getElem (by rw [Array.size_modify]; exact hlt), Array.getElem_modify_self, hk]
  rfl
theorem ByB.lt {W : World} {b : Nat} {l : List Int} (h : ByB W b l) : b < W.heap.size := (Array.getElem?_eq_some_iff.1 h).1
theorem ByB.cell {W : World} {b k : Nat} {l : List Int} {x : Int} (h : ByB W b l) (hx : l[k]? = some x) : W.cell? ⟨b, k, none⟩ = some (.int .u8 x) := by
  simp [World.cell?, show W.heap[b]? = _ from h, hx]
theorem ByB.frozen {W : World} {b : Nat} {l : List Int} (h : ByB W b l) (o : Nat) : W.frozen? ⟨b, o, none⟩ = false := by simp [World.frozen?, show W.heap[b]? = _ from h]
theorem ByB.set {W : World} {b : Nat} {l : List Int} (h : ByB W b l) (k : Nat) (x : Int) : ByB (W.setCell ⟨b, k, none⟩ (.int .u8 x)) b (l.set k x) := by
  have h1 := cellsT_set (o := k) (u := .int .u8 x) h
  refine Eq.trans h1 ?_
  simp [List.map_set]
theorem ByB.grow {W W' : World} {b : Nat} {l : List Int} (h : ByB W b l) (hB : Below W.heap.size W W') : ByB W' b l := (hB.block b h.lt).trans h
theorem ByB.other {W : World} {b c k : Nat} {l : List Int} {x : Value} (h : ByB W b l) (hne : b ≠ c) : ByB (W.setCell ⟨c, k, none⟩ x) b l := (heapT_set hne).trans h
def JW (d e : List Int) (k : Nat) (m : List Int) : Prop := m.length = 6 ∧ (∀ j, j < k → m[j]? = (addE d e)[j]?) ∧ ∀ j, k ≤ j → m[j]? = d[j]?
theorem add_at {d e : List Int} {k : Nat} {x y : Int} (hx : d[k]? = some x) (hy : e[k]? = some y) : (addE d e)[k]? = some ((x + y) % 256) := by
  unfold addE
  rw [List.getElem?_map, (show (d.zip e)[k]? = some (x, y) from List.getElem?_zip_eq_some.2 ⟨hx, hy⟩)]
  rfl
theorem jw_next {d e m : List Int} {k : Nat} {x y : Int} (h : JW d e k m) (hk : k < 6) (hx : d[k]? = some x) (hy : e[k]? = some y) : JW d e (k + 1) (m.set k ((x + y) % 256)) := by
  refine ⟨by rw [List.length_set]; exact h.1, fun j hj => ?_, fun j hj => ?_⟩
  · by_cases q : j = k
    · subst q
      rw [List.getElem?_set_self (by rw [h.1]; exact hk), add_at hx hy]
    · rw [List.getElem?_set_ne (fun z => q z.symm)]
      exact h.2.1 j (by omega)
  · rw [List.getElem?_set_ne (by omega)]
    exact h.2.2 j (by omega)
theorem add_len {d e : List Int} (h1 : d.length = 6) (h2 : e.length = 6) : (addE d e).length = 6 := by unfold addE; rw [List.length_map, List.length_zip, h1, h2]; rfl
theorem jw_end {d e m : List Int} (h : JW d e 6 m) (h1 : d.length = 6) (h2 : e.length = 6) : m = addE d e := by
  apply List.ext_getElem?
  intro j
  by_cases hj : j < 6
  · exact h.2.1 j hj
  · rw [List.getElem?_eq_none (by rw [h.1]; omega), List.getElem?_eq_none (by rw [add_len h1 h2]; omega)]
theorem add_ev {d e : List Int} (h1 : EV d) (h2 : EV e) : EV (addE d e) := by
  refine ⟨add_len h1.1 h2.1, fun x hx => ?_⟩
  unfold addE at hx
  obtain ⟨z, _, rfl⟩ := List.mem_map.1 hx
  omega
set_option maxHeartbeats 8000000 in
theorem join_ok (d e : List Int) (w : World) (h1 : EV d) (h2 : EV e) :
    Calls Tryz.prog 118 #[valE d, valE e] w fun r w' => r = .returned (valE (addE d e)) ∧ Below w.heap.size w w' := by
  obtain ⟨a0, a1, a2, a3, a4, a5, hea⟩ := six_of h1
  obtain ⟨b0, b1, b2, b3, b4, b5, heb⟩ := six_of h2
  rw [show valE d = .agg #[.int .u8 a0, .int .u8 a1, .int .u8 a2, .int .u8 a3, .int .u8 a4, .int .u8 a5] by rw [hea]; rfl, show valE e = .agg #[.int .u8 b0, .int .u8 b1, .int .u8 b2, .int .u8 b3, .int .u8 b4, .int .u8 b5] by rw [heb]; rfl]
  have HEA := Lib.hid hea
  have HEB := Lib.hid heb
  have H1 := Lib.hid h1
  have H2 := Lib.hid h2
  clear hea heb h1 h2
  go_enter Tryz.func118, Tryz.ntmps118
  go_wp2_with (fail)
  generalize hW0 : World.alloc (World.alloc (World.alloc w _) _) _ = W0
  have hBW : Below w.heap.size w W0 := by subst hW0; exact ((((Below.refl w.heap.size w).alloc (by go_size) _).alloc (by go_size) _).alloc (by go_size) _)
  have S0 : w.heap.size + 3 = W0.heap.size := by subst hW0; simp
  have V0 : ByB W0 w.heap.size d := by
    rw [HEA.out]
    subst hW0
    exact (Below.heap_alloc _ _ _ (by simp; omega)).trans ((Below.heap_alloc _ _ _ (by simp)).trans (World.alloc_heap_new w _))
  have V1 : ByB W0 (w.heap.size + 1) e := by
    rw [HEB.out]
    subst hW0
    have e := World.alloc_heap_new (World.alloc w (.cells #[.int .u8 a0, .int .u8 a1, .int .u8 a2, .int .u8 a3, .int .u8 a4, .int .u8 a5] 61)) (.cells #[.int .u8 b0, .int .u8 b1, .int .u8 b2, .int .u8 b3, .int .u8 b4, .int .u8 b5] 61)
    rw [World.size_alloc] at e
    exact (Below.heap_alloc _ _ _ (by simp)).trans e
  have V2 : ByB W0 (w.heap.size + 2) [0, 0, 0, 0, 0, 0] := by
    subst hW0
    have e := World.alloc_heap_new (World.alloc (World.alloc w (.cells #[.int .u8 a0, .int .u8 a1, .int .u8 a2, .int .u8 a3, .int .u8 a4, .int .u8 a5] 61)) (.cells #[.int .u8 b0, .int .u8 b1, .int .u8 b2, .int .u8 b3, .int .u8 b4, .int .u8 b5] 61)) (.cells #[.int .u8 0, .int .u8 0, .int .u8 0, .int .u8 0, .int .u8 0, .int .u8 0] 61)
    rw [World.size_alloc, World.size_alloc] at e
    exact e
  have HV0 := Lib.hid V0
  have HV1 := Lib.hid V1
  have HV2 := Lib.hid V2
  clear hW0 V0 V1 V2
  go_loopw [6] (fun i wr => ∃ (k : Nat) (m : List Int), i = .int .i64 k ∧ k ≤ 6 ∧ Hid (JW d e k m) ∧ Hid (ByB wr w.heap.size m) ∧ Hid (ByB wr (w.heap.size + 1) e) ∧ Hid (ByB wr (w.heap.size + 2) [0, 0, 0, 0, 0, 0]) ∧ Below w.heap.size w wr) (fun i _ => 6 - (intOf i).toNat)
  case atStart => exact ⟨0, d, rfl, Nat.zero_le _, Lib.hid ⟨H1.out.1, fun j h => absurd h (Nat.not_lt_zero _), fun _ _ => rfl⟩, HV0, HV1, HV2, hBW⟩
  case round =>
    obtain ⟨k, m, rfl, hk, HL, HA, HB, HC, hB⟩ := hrel
    by_cases hlt : k < 6
    · have i1 : (k : Int) < 6 := by omega
      obtain ⟨x, hx⟩ : ∃ x, d[k]? = some x := ⟨_, List.getElem?_eq_getElem (by rw [H1.out.1]; exact hlt)⟩
      obtain ⟨y, hy⟩ : ∃ y, e[k]? = some y := ⟨_, List.getElem?_eq_getElem (by rw [H2.out.1]; exact hlt)⟩
      have hmx : m[k]? = some x := by rw [HL.out.2.2 k (Nat.le_refl _), hx]
      have fB := HB.out.cell hy
      have fA := HA.out.cell hmx
      have z0 := HA.out.frozen k
      have ha := H1.out.2 x (List.mem_of_getElem? hx)
      have hb := H2.out.2 y (List.mem_of_getElem? hy)
      have Wu := wrap_u8 (x + y) (by omega)
      have HLN := Lib.hid (jw_next HL.out hlt hx hy)
      clear hx hy hmx
      go_wp2_with (fail)
      go_region
      go_wp2_with (fail)
      go_roundw
      case rel =>
        exact ⟨k + 1, _, by go_num, by omega, HLN, Lib.hid (HA.out.set k ((x + y) % 256)), Lib.hid (HB.out.other (by omega)), Lib.hid (HC.out.other (by omega)), (hB.setCell (p := ⟨w.heap.size, k, none⟩) (Nat.le_refl _) _).drew⟩
      case measure => simp [intOf]; omega
    · obtain rfl : k = 6 := by omega
      have hm := jw_end HL.out H1.out.1 H2.out.1
      rw [hm] at HA
      obtain ⟨d0, d1, d2, d3, d4, d5, hd⟩ := six_of (add_ev H1.out H2.out)
      rw [hd] at HA
      have HD := Lib.hid hd
      clear hm hd
      have x0 := HA.out.cell (k := 0) rfl
      have x1 := HA.out.cell (k := 1) rfl
      have x2 := HA.out.cell (k := 2) rfl
      have x3 := HA.out.cell (k := 3) rfl
      have x4 := HA.out.cell (k := 4) rfl
      have x5 := HA.out.cell (k := 5) rfl
      have y0 := HC.out.cell (k := 0) rfl
      have y1 := HC.out.cell (k := 1) rfl
      have y2 := HC.out.cell (k := 2) rfl
      have y3 := HC.out.cell (k := 3) rfl
      have y4 := HC.out.cell (k := 4) rfl
      have y5 := HC.out.cell (k := 5) rfl
      have z0 := HC.out.frozen 0
      have z1 := HC.out.frozen 1
      have z2 := HC.out.frozen 2
      have z3 := HC.out.frozen 3
      have z4 := HC.out.frozen 4
      have z5 := HC.out.frozen 5
      rw [show ((6 : Nat) : Int) = 6 from rfl]
      go_wp2_with (fail)
      refine bodyPost_ret (v := .agg #[.int .u8 d0, .int .u8 d1, .int .u8 d2, .int .u8 d3, .int .u8 d4, .int .u8 d5]) (by simp [results, Tryz.results118, go_sem, y0, y1, y2, y3, y4, y5]) rfl ⟨by rw [HD.out]; rfl, ?_⟩
      have q (W : World) (k : Nat) (v : Value) (h : Below w.heap.size w W) : Below w.heap.size w (W.setCell ⟨w.heap.size + 2, k, none⟩ v) := h.setCell (p := ⟨w.heap.size + 2, k, none⟩) (by simp) v
      exact q _ _ _ (q _ _ _ (q _ _ _ (q _ _ _ (q _ _ _ (q _ _ _ hB)))))
end Go.Proofs.YthakeeinhgfbbaaGreat
