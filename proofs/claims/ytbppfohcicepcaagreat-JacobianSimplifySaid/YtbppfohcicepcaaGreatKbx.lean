/-
  Box Jk Oh Oi
-/
import Derived.Test.YtbppfohcicepcaaGreatKba
import Derived.Test.YtbppfohcicepcaaGreatKbe
import Derived.Test.YtbppfohcicepcaaGreatKbk
import Derived.Test.YtbppfohcicepcaaGreatKbr
import Derived.Test.YtbppfohcicepcaaGreatKbv
import Derived.Test.YtbppfohcicepcaaGreatKbw
namespace Go.Proofs.YtbppfohcicepcaaGreat
open Go.ChangeShapes Go.WideShapes Go.ChangeAt Go.RowKit
set_option linter.unusedVariables false
set_option linter.unusedSimpArgs false
set_option maxRecDepth 100000
/-- The slice v holds the intervals l. -/
def Bx (w : World) (v : Value) (l : List (Int × Int)) : Prop := l.length ≤ maxLen ∧ ∃ p cap, v = .slice p l.length cap ∧
  ∀ k x, l[k]? = some x → ∃ b o, p = some ⟨b, o, none⟩ ∧ b < w.heap.size ∧ w.cell? ⟨b, o + k * 2, none⟩ = some (.int .i64 x.1) ∧ w.cell? ⟨b, o + k * 2 + 1, none⟩ = some (.int .i64 x.2)
/-- The slice v holds the numbers l. -/
def Pt (w : World) (v : Value) (l : List Int) : Prop := l.length ≤ maxLen ∧ ∃ p cap, v = .slice p l.length cap ∧
  ∀ k x, l[k]? = some x → ∃ b o, p = some ⟨b, o, none⟩ ∧ b < w.heap.size ∧ w.cell? ⟨b, o + k, none⟩ = some (.int .i64 x)

theorem Bx.grow {w w' : World} {v : Value} {l : List (Int × Int)} (h : Bx w v l) (hb : Below w.heap.size w w') : Bx w' v l := by
  obtain ⟨hl, p, cap, rfl, h⟩ := h
  refine ⟨hl, p, cap, rfl, fun k x hx => ?_⟩
  obtain ⟨b, o, rfl, h1, h2, h3⟩ := h k x hx
  exact ⟨b, o, rfl, Nat.lt_of_lt_of_le h1 hb.size, (hb.cell (p := ⟨b, o + k * 2, none⟩) h1).trans h2, (hb.cell (p := ⟨b, o + k * 2 + 1, none⟩) h1).trans h3⟩
theorem Pt.grow {w w' : World} {v : Value} {l : List Int} (h : Pt w v l) (hb : Below w.heap.size w w') : Pt w' v l := by
  obtain ⟨hl, p, cap, rfl, h⟩ := h
  refine ⟨hl, p, cap, rfl, fun k x hx => ?_⟩
  obtain ⟨b, o, rfl, h1, h2⟩ := h k x hx
  exact ⟨b, o, rfl, Nat.lt_of_lt_of_le h1 hb.size, (hb.cell (p := ⟨b, o + k, none⟩) h1).trans h2⟩
theorem Bx.mono {w w' : World} {B : Nat} {v : Value} {l : List (Int × Int)} (h : Bx w v l) (hb : Below B w w') (hB : w.heap.size ≤ B) : Bx w' v l := h.grow (hb.mono hB)
theorem Bx.nil {w : World} : Bx w (.slice none 0 0) [] := ⟨by simp, none, 0, rfl, fun k x h => by simp at h⟩

/-- A box's interval number k, in a later world. -/
theorem Bx.at {w wr : World} {p : Option Addr} {c n k : Nat} {l : List (Int × Int)} (h : ∀ k x, l[k]? = some x → ∃ b o, p = some ⟨b, o, none⟩ ∧ b < w.heap.size ∧ w.cell? ⟨b, o + k * 2, none⟩ = some (.int .i64 x.1) ∧ w.cell? ⟨b, o + k * 2 + 1, none⟩ = some (.int .i64 x.2))
    (hk : k < l.length) (hb : Below w.heap.size w wr) : ∃ b o x y, p = some ⟨b, o, none⟩ ∧ l[k]? = some (x, y) ∧ b < w.heap.size ∧ wr.cell? ⟨b, o + k * 2, none⟩ = some (.int .i64 x) ∧ wr.cell? ⟨b, o + k * 2 + 1, none⟩ = some (.int .i64 y) := by
  obtain ⟨b, o, h1, h2, h3, h4⟩ := h k l[k] (List.getElem?_eq_getElem hk)
  exact ⟨b, o, l[k].1, l[k].2, h1, List.getElem?_eq_getElem hk, h2, (hb.cell (p := ⟨b, o + k * 2, none⟩) h2).trans h3, (hb.cell (p := ⟨b, o + k * 2 + 1, none⟩) h2).trans h4⟩

theorem Pt.at {w wr : World} {p : Option Addr} {c n k : Nat} {l : List Int} (h : ∀ k x, l[k]? = some x → ∃ b o, p = some ⟨b, o, none⟩ ∧ b < w.heap.size ∧ w.cell? ⟨b, o + k, none⟩ = some (.int .i64 x))
    (hk : k < l.length) (hb : Below w.heap.size w wr) : ∃ b o x, p = some ⟨b, o, none⟩ ∧ l[k]? = some x ∧ b < w.heap.size ∧ wr.cell? ⟨b, o + k, none⟩ = some (.int .i64 x) := by
  obtain ⟨b, o, h1, h2, h3⟩ := h k l[k] (List.getElem?_eq_getElem hk)
  exact ⟨b, o, l[k], h1, List.getElem?_eq_getElem hk, h2, (hb.cell (p := ⟨b, o + k, none⟩) h2).trans h3⟩

theorem ret_bool {a b : Bool} (h : a = b) : Ending.returned (.bool a) = .returned (.bool b) := by rw [h]

theorem take_succ_eq {α : Type} {l m : List α} {k : Nat} {x y : α} (h : l.take k = m.take k) (hx : l[k]? = some x) (hy : m[k]? = some y) (e : x = y) : l.take (k + 1) = m.take (k + 1) := by
  rw [List.take_add_one, List.take_add_one, h, hx, hy, e]

end Go.Proofs.YtbppfohcicepcaaGreat
namespace Go.Proofs.YtbppfohcicepcaaGreat
open Go.ChangeShapes Go.WideShapes Go.ChangeAt Go.RowKit
set_option linter.unusedVariables false
set_option linter.unusedSimpArgs false
set_option maxRecDepth 100000
attribute [local irreducible] Calls
theorem nd_get {w : World} {p : Option Addr} {n c : Nat} {l : List Nd} (h : Nx w (.slice p n c) l) {k : Nat} (hk : k < l.length) {wr : World} (hb : Below w.heap.size w wr) : ∃ b o op m lo hi, p = some ⟨b, o, none⟩ ∧ l[k]? = some ⟨op, m, lo, hi⟩ ∧ b < w.heap.size ∧ wr.cell? ⟨b, o + k * 4, none⟩ = some (.int .i64 op) ∧ wr.cell? ⟨b, o + k * 4 + 1, none⟩ = some (.int .i64 m) ∧ wr.cell? ⟨b, o + k * 4 + 2, none⟩ = some (.int .i64 lo) ∧ wr.cell? ⟨b, o + k * 4 + 3, none⟩ = some (.int .i64 hi) := by
  obtain ⟨x, hx⟩ : ∃ x, l[k]? = some x := ⟨_, List.getElem?_eq_getElem hk⟩
  obtain ⟨b, o, rfl, hb0, rd⟩ := nd_rd h hx
  obtain ⟨h0, h1, h2, h3⟩ := rd ⟨wr, hb⟩
  obtain ⟨op, m, lo, hi⟩ := x
  exact ⟨b, o, op, m, lo, hi, rfl, hx, hb0, h0, h1, h2, h3⟩
set_option maxHeartbeats 4000000 in
theorem r7same (v u : Value) (l m : List Nd) (w : World) (hv : Nx w v l) (hu : Nx w u m) :
    Calls Tryz.prog 14 #[v, u] w fun e w' => e = .returned (.bool (decide (l = m))) ∧ Below w.heap.size w w' := by
  have hl := hv.1
  have hm := hu.1
  obtain ⟨p, c, rfl⟩ := hv.cut
  obtain ⟨q, d, rfl⟩ := hu.cut
  unfold maxLen at hl hm
  by_cases hlen : l.length = m.length
  · have HL := Lib.hid hlen
    have HV := Lib.hid hv
    have HU := Lib.hid hu
    clear hv hu
    go_enter Tryz.func14, Tryz.ntmps14
    go_wp2_with (fail)
    go_loopw [5] (fun c wr => ∃ k : Nat, c = .int .i64 k ∧ k ≤ l.length ∧ Hid (l.take k = m.take k) ∧ Below w.heap.size w wr) (fun c _ => l.length - (intOf c).toNat)
    case atStart => exact ⟨0, rfl, Nat.zero_le _, rfl, Below.refl _ _⟩
    case round =>
      obtain ⟨k, rfl, hk, ht, hB⟩ := hrel
      by_cases hlt : k < l.length
      · obtain ⟨b, o, op, n, lo, hi, rfl, hx, hb, c0, c1, c2, c3⟩ := nd_get HV.out hlt hB
        obtain ⟨b', o', op', n', lo', hi', rfl, hx', hb', d0, d1, d2, d3⟩ := nd_get HU.out (k := k) (by omega) hB
        have hltm : k < m.length := by omega
        have HX := Lib.hid hx
        have HX' := Lib.hid hx'
        clear hx hx'
        have hsz := hB.size
        by_cases hxy : (⟨op, n, lo, hi⟩ : Nd) = ⟨op', n', lo', hi'⟩
        · cases hxy
          go_wp2_with (fail)
          go_quiet (fail)
          go_wp2_with (fail)
          go_roundw
          case rel => exact ⟨k + 1, by go_num, by omega, take_succ_eq ht.out HX.out HX'.out rfl, below_drewN hB _⟩
          case measure => simp [intOf]; omega
        · have hne : decide (l = m) = false := by
            rw [decide_eq_false_iff_not]
            intro e
            rw [e, HX'.out] at HX
            have := Option.some.inj HX.out
            exact hxy this.symm
          by_cases e0 : op = op'
          · subst e0
            by_cases e1 : n = n'
            · subst e1
              by_cases e2 : lo = lo'
              · subst e2
                have e3 : (hi == hi') = false := by rw [beq_eq_false_iff_ne]; exact fun e => hxy (by rw [e])
                clear hxy
                go_wp2_with (fail)
                go_quiet (fail)
                go_wp2_with (fail)
                go_ret
                exact ⟨ret_bool hne.symm, below_drewN hB _⟩
              · have f2 : (lo == lo') = false := by rw [beq_eq_false_iff_ne]; exact e2
                clear hxy e2
                go_wp2_with (fail)
                go_quiet (fail)
                go_wp2_with (fail)
                go_ret
                exact ⟨ret_bool hne.symm, below_drewN hB _⟩
            · have f1 : (n == n') = false := by rw [beq_eq_false_iff_ne]; exact e1
              clear hxy e1
              go_wp2_with (fail)
              go_quiet (fail)
              go_wp2_with (fail)
              go_ret
              exact ⟨ret_bool hne.symm, below_drewN hB _⟩
          · have f0 : (op == op') = false := by rw [beq_eq_false_iff_ne]; exact e0
            clear hxy e0
            go_wp2_with (fail)
            go_quiet (fail)
            go_wp2_with (fail)
            go_ret
            exact ⟨ret_bool hne.symm, below_drewN hB _⟩
      · obtain rfl : k = l.length := by omega
        go_wp2_with (fail)
        go_ret
        have hT := ht.out
        have hT' := HL.out
        refine ⟨ret_bool ?_, hB⟩
        rw [List.take_of_length_le (Nat.le_refl _), List.take_of_length_le (by omega)] at hT
        simp [hT]
  · have hne : decide (l = m) = false := by
      rw [decide_eq_false_iff_not]
      intro e
      exact hlen (by rw [e])
    have hlt : ((l.length : Int) != (m.length : Int)) = true := by simp; omega
    go_enter Tryz.func14, Tryz.ntmps14
    go_wp2_with (fail)
    go_ret
    exact ⟨ret_bool hne.symm, Below.refl _ _⟩
theorem number10_ok (k : Int) (w : World) (h1 : -32767 ≤ k) (h2 : k ≤ 32767) : Calls Tryz.prog 29 #[.int .i64 k] w fun e w' => ∃ v, e = .returned v ∧ w'.ownsRow w.heap.size 63 4 v 1 (cr encN (pre (pt (k * 65536)))) ∧ Below w.heap.size w w' := by
  have K := Lib.hid (fun w => r2point (k * 65536) w)
  have e1 : mkLo (k * 65536) (k * 65536) = k * 65536 := by unfold mkLo Num; rw [if_pos (by omega)]
  have e2 : mkHi (k * 65536) (k * 65536) = k * 65536 := by unfold mkHi Num; rw [if_pos (by omega)]
  go_enter Tryz.func29, Tryz.ntmps29
  go_wp2_with (fail)
  refine (K.out _).mono ?_
  rintro e w1 ⟨rfl, hB⟩
  go_wp2_with (fail)
  refine (const7_ok (k * 65536) (k * 65536) w1).mono ?_
  rintro e w2 ⟨v, rfl, hr, hB2⟩
  have HR := Lib.hid (own_base hr hB.size)
  have HB := Lib.hid (below_then hB hB2)
  clear hr hB hB2
  go_wp2_with (fail)
  go_ret
  exact ⟨_, rfl, HR.out, HB.out⟩
theorem variable10_ok (i : Int) (w : World) : Calls Tryz.prog 31 #[.int .i64 i] w fun e w' => ∃ v, e = .returned v ∧ w'.ownsRow w.heap.size 63 4 v 1 (cr encN [⟨2, i, 0, 0⟩]) ∧ Below w.heap.size w w' := by
  go_enter Tryz.func31, Tryz.ntmps31
  go_wp2_with (fail)
  go_ret
  exact ⟨_, rfl, own_node ⟨2, i, 0, 0⟩ (World.alloc_heap_new w _) (Nat.le_refl _), (Below.refl _ _).alloc (Nat.le_refl _) _⟩
end Go.Proofs.YtbppfohcicepcaaGreat
namespace Go.Proofs.YtbppfohcicepcaaGreat
open Go.ChangeShapes Go.WideShapes Go.ChangeAt Go.RowKit Go.Maps
set_option linter.unusedVariables false
set_option linter.unusedSimpArgs false
set_option maxRecDepth 100000
attribute [local irreducible] Calls
set_option maxHeartbeats 16000000 in
theorem ev_neg (W0 : World) (rb xb tb nb mb mm : Nat) (xv : Value) (t1 t2 : Int) (X : List (Int × Int)) (N : Int) (hxv : Vx W0 xv X) (hN : (X.length : Int) = N) (hvx : ∀ p ∈ X, VI p.1 p.2) (hvt : VI t1 t2) (n lo hi : Int) (a : Ex) (he : EV N a) (ih : ∀ (R : List Nd) (v : Value) (W : World), EvS W0 rb xb tb nb mb mm xv t1 t2 v (pre a ++ R) W → Calls Tryz.prog 82 #[.pointer (some ⟨rb, 0, none⟩), .pointer (some ⟨xb, 0, none⟩), .pointer (some ⟨tb, 0, none⟩), .pointer (some ⟨nb, 0, none⟩), .pointer (some ⟨mb, 0, none⟩)] W fun en w' => ∃ v', en = .returned (.agg #[.int .i64 (evT X (t1, t2) (a)).1, .int .i64 (evT X (t1, t2) (a)).2]) ∧ EvS W0 rb xb tb nb mb mm xv t1 t2 v' R w' ∧ Oth rb W w') (R RR : List Nd) (hRR : pre a ++ R = RR) (v : Value) (W : World) (h : EvS W0 rb xb tb nb mb mm xv t1 t2 v (⟨4, n, lo, hi⟩ :: RR) W) :
    Calls Tryz.prog 82 #[.pointer (some ⟨rb, 0, none⟩), .pointer (some ⟨xb, 0, none⟩), .pointer (some ⟨tb, 0, none⟩), .pointer (some ⟨nb, 0, none⟩), .pointer (some ⟨mb, 0, none⟩)] W fun en w' => ∃ v', en = .returned (.agg #[.int .i64 (evT X (t1, t2) (.e1 ⟨4, n, lo, hi⟩ a)).1, .int .i64 (evT X (t1, t2) (.e1 ⟨4, n, lo, hi⟩ a)).2]) ∧ EvS W0 rb xb tb nb mb mm xv t1 t2 v' R w' ∧ Oth rb W w' := by
  have ih := ih R
  rw [hRR] at ih
  clear hRR
  obtain ⟨hnx, p, c, rfl, hcap, hpc⟩ := h.nx
  obtain ⟨q, cc, hV, hsl⟩ := rest_cut hnx hcap
  obtain ⟨b, o, rfl, hbs, rd⟩ := nd_rd (i := 0) hnx rfl
  have i1 : (0 : Int) < (RR.length : Int) + 1 := by omega
  have hS1 : Below W.heap.size W (W.alloc (.cells #[.int .i64 0, .int .i64 0] 26)) := (Below.refl _ _).alloc (Nat.le_refl _) _
  have hS2 : Below (W.alloc (.cells #[.int .i64 0, .int .i64 0] 26)).heap.size (W.alloc (.cells #[.int .i64 0, .int .i64 0] 26)) ((W.alloc (.cells #[.int .i64 0, .int .i64 0] 26)).alloc (.cells #[.int .i64 4, .int .i64 n, .int .i64 lo, .int .i64 hi] 63)) := (Below.refl _ _).alloc (Nat.le_refl _) _
  have E1 := h.grow hS1
  have E2 := E1.grow hS2
  have hrl := h.lt
  have hsz : (W.setCell ⟨rb, 0, none⟩ (.slice q RR.length cc)).heap.size = W.heap.size := by simp
  have hT1 : Below (W.setCell ⟨rb, 0, none⟩ (.slice q RR.length cc)).heap.size (W.setCell ⟨rb, 0, none⟩ (.slice q RR.length cc)) ((W.setCell ⟨rb, 0, none⟩ (.slice q RR.length cc)).alloc (.cells #[.int .i64 0, .int .i64 0] 26)) := (Below.refl _ _).alloc (Nat.le_refl _) _
  have hT2 : Below ((W.setCell ⟨rb, 0, none⟩ (.slice q RR.length cc)).alloc (.cells #[.int .i64 0, .int .i64 0] 26)).heap.size ((W.setCell ⟨rb, 0, none⟩ (.slice q RR.length cc)).alloc (.cells #[.int .i64 0, .int .i64 0] 26)) (((W.setCell ⟨rb, 0, none⟩ (.slice q RR.length cc)).alloc (.cells #[.int .i64 0, .int .i64 0] 26)).alloc (.cells #[.int .i64 4, .int .i64 n, .int .i64 lo, .int .i64 hi] 63)) := (Below.refl _ _).alloc (Nat.le_refl _) _
  have E3 := ((h.put hV).grow hT1).grow hT2
  have r1 := heapN_cellj E1.br (k := 0) rfl
  have r2 := heapN_cellj E2.br (k := 0) rfl
  have z2 : ((W.alloc (.cells #[.int .i64 0, .int .i64 0] 26)).alloc (.cells #[.int .i64 4, .int .i64 n, .int .i64 lo, .int .i64 hi] 63)).frozen? ⟨rb, 0, none⟩ = false := by simp [World.frozen?, E2.br]
  obtain ⟨f0, f1, f2, f3⟩ := rd ⟨_, E1.bel⟩
  rw [Nat.zero_mul, Nat.add_zero] at f0 f1 f2 f3
  dsimp only at f0 f1 f2 f3
  have hnd : (((W.setCell ⟨rb, 0, none⟩ (.slice q RR.length cc)).alloc (.cells #[.int .i64 0, .int .i64 0] 26)).alloc (.cells #[.int .i64 4, .int .i64 n, .int .i64 lo, .int .i64 hi] 63)).heap[W.heap.size + 1]? = some (.cells #[.int .i64 4, .int .i64 n, .int .i64 lo, .int .i64 hi] 63 (0, 0)) := by
    have := World.alloc_heap_new ((W.setCell ⟨rb, 0, none⟩ (.slice q RR.length cc)).alloc (.cells #[.int .i64 0, .int .i64 0] 26)) (.cells #[.int .i64 4, .int .i64 n, .int .i64 lo, .int .i64 hi] 63)
    rwa [alloc_sz, hsz] at this
  have hrs : (((W.setCell ⟨rb, 0, none⟩ (.slice q RR.length cc)).alloc (.cells #[.int .i64 0, .int .i64 0] 26)).alloc (.cells #[.int .i64 4, .int .i64 n, .int .i64 lo, .int .i64 hi] 63)).heap[W.heap.size]? = some (.cells #[.int .i64 0, .int .i64 0] 26 (0, 0)) := by
    have h1 := World.alloc_heap_new (W.setCell ⟨rb, 0, none⟩ (.slice q RR.length cc)) (.cells #[.int .i64 0, .int .i64 0] 26)
    rw [hsz] at h1
    exact (hT2.block W.heap.size (by rw [alloc_sz, hsz]; omega)).trans h1
  have o3 : Oth rb W (((W.setCell ⟨rb, 0, none⟩ (.slice q RR.length cc)).alloc (.cells #[.int .i64 0, .int .i64 0] 26)).alloc (.cells #[.int .i64 4, .int .i64 n, .int .i64 lo, .int .i64 hi] 63)) := (Oth.set rb W (.slice q RR.length cc)).trans (Oth.ofBelow (hT1.trans (hT2.mono hT1.size)))
  have H3g := Lib.hid (fun (u1 u2 : Value) => show EvS W0 rb xb tb nb mb mm xv t1 t2 (.slice q RR.length cc) RR (((W.setCell ⟨rb, 0, none⟩ (.slice q RR.length cc)).alloc (.cells #[u1, u2] 26)).alloc (.cells #[.int .i64 4, .int .i64 n, .int .i64 lo, .int .i64 hi] 63)) from ((h.put hV).grow ((Below.refl _ _).alloc (Nat.le_refl _) _)).grow ((Below.refl _ _).alloc (Nat.le_refl _) _))
  have O3g := Lib.hid (fun (u1 u2 : Value) => show Oth rb W (((W.setCell ⟨rb, 0, none⟩ (.slice q RR.length cc)).alloc (.cells #[u1, u2] 26)).alloc (.cells #[.int .i64 4, .int .i64 n, .int .i64 lo, .int .i64 hi] 63)) from (Oth.set rb W (.slice q RR.length cc)).trans ((Oth.ofBelow ((Below.refl _ _).alloc (Nat.le_refl _) _)).trans (Oth.ofBelow ((Below.refl _ _).alloc (Nat.le_refl _) _))))
  have H3 := Lib.hid E3
  have HN3 := Lib.hid hnd
  have HR3 := Lib.hid hrs
  have O3 := Lib.hid o3
  clear hS1 hS2 E1 E2 E3 hnd hrs o3 rd hpc hV hnx hT1 hT2 hsz
  simp only [List.length_cons] at r1 r2
  have n0 := heapN_cellj HN3.out (k := 0) rfl
  have n1 := heapN_cellj HN3.out (k := 1) rfl
  have n2 := heapN_cellj HN3.out (k := 2) rfl
  have n3 := heapN_cellj HN3.out (k := 3) rfl
  have y0 := heapN_cellj HR3.out (k := 0) rfl
  have y1 := heapN_cellj HR3.out (k := 1) rfl
  have z0 : (((W.setCell ⟨rb, 0, none⟩ (.slice q RR.length cc)).alloc (.cells #[.int .i64 0, .int .i64 0] 26)).alloc (.cells #[.int .i64 4, .int .i64 n, .int .i64 lo, .int .i64 hi] 63)).frozen? ⟨W.heap.size, 0, none⟩ = false := by simp [World.frozen?, show (((W.setCell ⟨rb, 0, none⟩ (.slice q RR.length cc)).alloc (.cells #[.int .i64 0, .int .i64 0] 26)).alloc (.cells #[.int .i64 4, .int .i64 n, .int .i64 lo, .int .i64 hi] 63)).heap[W.heap.size]? = some (.cells #[.int .i64 0, .int .i64 0] 26 (0, 0)) from HR3.out]
  have z1 : (((W.setCell ⟨rb, 0, none⟩ (.slice q RR.length cc)).alloc (.cells #[.int .i64 0, .int .i64 0] 26)).alloc (.cells #[.int .i64 4, .int .i64 n, .int .i64 lo, .int .i64 hi] 63)).frozen? ⟨W.heap.size, 1, none⟩ = false := by simp [World.frozen?, show (((W.setCell ⟨rb, 0, none⟩ (.slice q RR.length cc)).alloc (.cells #[.int .i64 0, .int .i64 0] 26)).alloc (.cells #[.int .i64 4, .int .i64 n, .int .i64 lo, .int .i64 hi] 63)).heap[W.heap.size]? = some (.cells #[.int .i64 0, .int .i64 0] 26 (0, 0)) from HR3.out]
  have HH := Lib.hid h
  have hev0 := h.bel.size
  have hva := evT_vi hvx hvt he (t := (t1, t2))
  obtain ⟨⟨a1, a2⟩, hva'⟩ : ∃ y, evT X (t1, t2) a = y := ⟨_, rfl⟩
  have hev : evT X (t1, t2) (.e1 ⟨4, n, lo, hi⟩ a) = opI 4 (a1, a2) (a1, a2) := by
    rw [evT_one, hva']
  rw [hva'] at hva ih
  dsimp only at hva ih
  have hbd := hva.bd
  have q0 := heapN_cellj H3.out.bn (k := 0) rfl
  have KF := Lib.hid (fun w => iv_neg a1 a2 w ⟨hbd.1, hbd.2.1, hbd.2.2.1, hbd.2.2.2.1⟩)
  rw [hev, show opI 4 (a1, a2) (a1, a2) = (-a2, -a1) from rfl]
  clear he h
  go_enter Tryz.func82, Tryz.ntmps82
  go_wp2_with (fail)
  refine (ih _ _ H3.out).mono ?_
  rintro e w5 ⟨v', rfl, h5, o5⟩
  have H5 := Lib.hid h5
  have O5 := Lib.hid (O3.out.trans o5)
  have hr5 := (o5.blk W.heap.size (Array.getElem?_eq_some_iff.1 HR3.out).1 (by omega)).trans HR3.out
  have HR5 := Lib.hid hr5
  clear h5 o5 hr5 n0 n1 n2 n3 y0 y1 z0 z1 q0
  as_aux_lemma =>
    go_wp2_with (fail)
    refine (KF.out _).mono ?_
    rintro e w6 ⟨rfl, hB⟩
    have HR6 := Lib.hid ((hB.block W.heap.size (Array.getElem?_eq_some_iff.1 HR5.out).1).trans HR5.out)
    have H6 := Lib.hid (H5.out.grow hB)
    have O6 := Lib.hid (O5.out.trans (Oth.ofBelow hB))
    clear hB
    have y0 := heapN_cellj HR6.out (k := 0) rfl
    have y1 := heapN_cellj HR6.out (k := 1) rfl
    have z0 : w6.frozen? ⟨W.heap.size, 0, none⟩ = false := by simp [World.frozen?, show w6.heap[W.heap.size]? = some (.cells #[.int .i64 0, .int .i64 0] 26 (0, 0)) from HR6.out]
    have z1 : w6.frozen? ⟨W.heap.size, 1, none⟩ = false := by simp [World.frozen?, show w6.heap[W.heap.size]? = some (.cells #[.int .i64 0, .int .i64 0] 26 (0, 0)) from HR6.out]
    go_wp2_with (fail)
    have hs := cellsT_setN (o := 1) (u := .int .i64 (-a1)) (cellsT_setN (o := 0) (u := .int .i64 (-a2)) HR6.out)
    have x0 := heapN_cellj hs (k := 0) (u := .int .i64 (-a2)) rfl
    have x1 := heapN_cellj hs (k := 1) (u := .int .i64 (-a1)) rfl
    exact bodyPost_ret (v := .agg #[.int .i64 (-a2), .int .i64 (-a1)]) (by simp [results, Tryz.results82, go_sem, x0, x1]) rfl ⟨_, rfl, HH.out.set (HH.out.set H6.out (Nat.le_refl _) 0 _) (Nat.le_refl _) 1 _, (O6.out.setO (Nat.le_refl _) 0 _).setO (Nat.le_refl _) 1 _⟩
set_option maxHeartbeats 16000000 in
theorem ev_sqr (W0 : World) (rb xb tb nb mb mm : Nat) (xv : Value) (t1 t2 : Int) (X : List (Int × Int)) (N : Int) (hxv : Vx W0 xv X) (hN : (X.length : Int) = N) (hvx : ∀ p ∈ X, VI p.1 p.2) (hvt : VI t1 t2) (n lo hi : Int) (a : Ex) (he : EV N a) (ih : ∀ (R : List Nd) (v : Value) (W : World), EvS W0 rb xb tb nb mb mm xv t1 t2 v (pre a ++ R) W → Calls Tryz.prog 82 #[.pointer (some ⟨rb, 0, none⟩), .pointer (some ⟨xb, 0, none⟩), .pointer (some ⟨tb, 0, none⟩), .pointer (some ⟨nb, 0, none⟩), .pointer (some ⟨mb, 0, none⟩)] W fun en w' => ∃ v', en = .returned (.agg #[.int .i64 (evT X (t1, t2) (a)).1, .int .i64 (evT X (t1, t2) (a)).2]) ∧ EvS W0 rb xb tb nb mb mm xv t1 t2 v' R w' ∧ Oth rb W w') (R RR : List Nd) (hRR : pre a ++ R = RR) (v : Value) (W : World) (h : EvS W0 rb xb tb nb mb mm xv t1 t2 v (⟨5, n, lo, hi⟩ :: RR) W) :
    Calls Tryz.prog 82 #[.pointer (some ⟨rb, 0, none⟩), .pointer (some ⟨xb, 0, none⟩), .pointer (some ⟨tb, 0, none⟩), .pointer (some ⟨nb, 0, none⟩), .pointer (some ⟨mb, 0, none⟩)] W fun en w' => ∃ v', en = .returned (.agg #[.int .i64 (evT X (t1, t2) (.e1 ⟨5, n, lo, hi⟩ a)).1, .int .i64 (evT X (t1, t2) (.e1 ⟨5, n, lo, hi⟩ a)).2]) ∧ EvS W0 rb xb tb nb mb mm xv t1 t2 v' R w' ∧ Oth rb W w' := by
  have ih := ih R
  rw [hRR] at ih
  clear hRR
  obtain ⟨hnx, p, c, rfl, hcap, hpc⟩ := h.nx
  obtain ⟨q, cc, hV, hsl⟩ := rest_cut hnx hcap
  obtain ⟨b, o, rfl, hbs, rd⟩ := nd_rd (i := 0) hnx rfl
  have i1 : (0 : Int) < (RR.length : Int) + 1 := by omega
  have hS1 : Below W.heap.size W (W.alloc (.cells #[.int .i64 0, .int .i64 0] 26)) := (Below.refl _ _).alloc (Nat.le_refl _) _
  have hS2 : Below (W.alloc (.cells #[.int .i64 0, .int .i64 0] 26)).heap.size (W.alloc (.cells #[.int .i64 0, .int .i64 0] 26)) ((W.alloc (.cells #[.int .i64 0, .int .i64 0] 26)).alloc (.cells #[.int .i64 5, .int .i64 n, .int .i64 lo, .int .i64 hi] 63)) := (Below.refl _ _).alloc (Nat.le_refl _) _
  have E1 := h.grow hS1
  have E2 := E1.grow hS2
  have hrl := h.lt
  have hsz : (W.setCell ⟨rb, 0, none⟩ (.slice q RR.length cc)).heap.size = W.heap.size := by simp
  have hT1 : Below (W.setCell ⟨rb, 0, none⟩ (.slice q RR.length cc)).heap.size (W.setCell ⟨rb, 0, none⟩ (.slice q RR.length cc)) ((W.setCell ⟨rb, 0, none⟩ (.slice q RR.length cc)).alloc (.cells #[.int .i64 0, .int .i64 0] 26)) := (Below.refl _ _).alloc (Nat.le_refl _) _
  have hT2 : Below ((W.setCell ⟨rb, 0, none⟩ (.slice q RR.length cc)).alloc (.cells #[.int .i64 0, .int .i64 0] 26)).heap.size ((W.setCell ⟨rb, 0, none⟩ (.slice q RR.length cc)).alloc (.cells #[.int .i64 0, .int .i64 0] 26)) (((W.setCell ⟨rb, 0, none⟩ (.slice q RR.length cc)).alloc (.cells #[.int .i64 0, .int .i64 0] 26)).alloc (.cells #[.int .i64 5, .int .i64 n, .int .i64 lo, .int .i64 hi] 63)) := (Below.refl _ _).alloc (Nat.le_refl _) _
  have E3 := ((h.put hV).grow hT1).grow hT2
  have r1 := heapN_cellj E1.br (k := 0) rfl
  have r2 := heapN_cellj E2.br (k := 0) rfl
  have z2 : ((W.alloc (.cells #[.int .i64 0, .int .i64 0] 26)).alloc (.cells #[.int .i64 5, .int .i64 n, .int .i64 lo, .int .i64 hi] 63)).frozen? ⟨rb, 0, none⟩ = false := by simp [World.frozen?, E2.br]
  obtain ⟨f0, f1, f2, f3⟩ := rd ⟨_, E1.bel⟩
  rw [Nat.zero_mul, Nat.add_zero] at f0 f1 f2 f3
  dsimp only at f0 f1 f2 f3
  have hnd : (((W.setCell ⟨rb, 0, none⟩ (.slice q RR.length cc)).alloc (.cells #[.int .i64 0, .int .i64 0] 26)).alloc (.cells #[.int .i64 5, .int .i64 n, .int .i64 lo, .int .i64 hi] 63)).heap[W.heap.size + 1]? = some (.cells #[.int .i64 5, .int .i64 n, .int .i64 lo, .int .i64 hi] 63 (0, 0)) := by
    have := World.alloc_heap_new ((W.setCell ⟨rb, 0, none⟩ (.slice q RR.length cc)).alloc (.cells #[.int .i64 0, .int .i64 0] 26)) (.cells #[.int .i64 5, .int .i64 n, .int .i64 lo, .int .i64 hi] 63)
    rwa [alloc_sz, hsz] at this
  have hrs : (((W.setCell ⟨rb, 0, none⟩ (.slice q RR.length cc)).alloc (.cells #[.int .i64 0, .int .i64 0] 26)).alloc (.cells #[.int .i64 5, .int .i64 n, .int .i64 lo, .int .i64 hi] 63)).heap[W.heap.size]? = some (.cells #[.int .i64 0, .int .i64 0] 26 (0, 0)) := by
    have h1 := World.alloc_heap_new (W.setCell ⟨rb, 0, none⟩ (.slice q RR.length cc)) (.cells #[.int .i64 0, .int .i64 0] 26)
    rw [hsz] at h1
    exact (hT2.block W.heap.size (by rw [alloc_sz, hsz]; omega)).trans h1
  have o3 : Oth rb W (((W.setCell ⟨rb, 0, none⟩ (.slice q RR.length cc)).alloc (.cells #[.int .i64 0, .int .i64 0] 26)).alloc (.cells #[.int .i64 5, .int .i64 n, .int .i64 lo, .int .i64 hi] 63)) := (Oth.set rb W (.slice q RR.length cc)).trans (Oth.ofBelow (hT1.trans (hT2.mono hT1.size)))
  have H3g := Lib.hid (fun (u1 u2 : Value) => show EvS W0 rb xb tb nb mb mm xv t1 t2 (.slice q RR.length cc) RR (((W.setCell ⟨rb, 0, none⟩ (.slice q RR.length cc)).alloc (.cells #[u1, u2] 26)).alloc (.cells #[.int .i64 5, .int .i64 n, .int .i64 lo, .int .i64 hi] 63)) from ((h.put hV).grow ((Below.refl _ _).alloc (Nat.le_refl _) _)).grow ((Below.refl _ _).alloc (Nat.le_refl _) _))
  have O3g := Lib.hid (fun (u1 u2 : Value) => show Oth rb W (((W.setCell ⟨rb, 0, none⟩ (.slice q RR.length cc)).alloc (.cells #[u1, u2] 26)).alloc (.cells #[.int .i64 5, .int .i64 n, .int .i64 lo, .int .i64 hi] 63)) from (Oth.set rb W (.slice q RR.length cc)).trans ((Oth.ofBelow ((Below.refl _ _).alloc (Nat.le_refl _) _)).trans (Oth.ofBelow ((Below.refl _ _).alloc (Nat.le_refl _) _))))
  have H3 := Lib.hid E3
  have HN3 := Lib.hid hnd
  have HR3 := Lib.hid hrs
  have O3 := Lib.hid o3
  clear hS1 hS2 E1 E2 E3 hnd hrs o3 rd hpc hV hnx hT1 hT2 hsz
  simp only [List.length_cons] at r1 r2
  have n0 := heapN_cellj HN3.out (k := 0) rfl
  have n1 := heapN_cellj HN3.out (k := 1) rfl
  have n2 := heapN_cellj HN3.out (k := 2) rfl
  have n3 := heapN_cellj HN3.out (k := 3) rfl
  have y0 := heapN_cellj HR3.out (k := 0) rfl
  have y1 := heapN_cellj HR3.out (k := 1) rfl
  have z0 : (((W.setCell ⟨rb, 0, none⟩ (.slice q RR.length cc)).alloc (.cells #[.int .i64 0, .int .i64 0] 26)).alloc (.cells #[.int .i64 5, .int .i64 n, .int .i64 lo, .int .i64 hi] 63)).frozen? ⟨W.heap.size, 0, none⟩ = false := by simp [World.frozen?, show (((W.setCell ⟨rb, 0, none⟩ (.slice q RR.length cc)).alloc (.cells #[.int .i64 0, .int .i64 0] 26)).alloc (.cells #[.int .i64 5, .int .i64 n, .int .i64 lo, .int .i64 hi] 63)).heap[W.heap.size]? = some (.cells #[.int .i64 0, .int .i64 0] 26 (0, 0)) from HR3.out]
  have z1 : (((W.setCell ⟨rb, 0, none⟩ (.slice q RR.length cc)).alloc (.cells #[.int .i64 0, .int .i64 0] 26)).alloc (.cells #[.int .i64 5, .int .i64 n, .int .i64 lo, .int .i64 hi] 63)).frozen? ⟨W.heap.size, 1, none⟩ = false := by simp [World.frozen?, show (((W.setCell ⟨rb, 0, none⟩ (.slice q RR.length cc)).alloc (.cells #[.int .i64 0, .int .i64 0] 26)).alloc (.cells #[.int .i64 5, .int .i64 n, .int .i64 lo, .int .i64 hi] 63)).heap[W.heap.size]? = some (.cells #[.int .i64 0, .int .i64 0] 26 (0, 0)) from HR3.out]
  have HH := Lib.hid h
  have hev0 := h.bel.size
  have hva := evT_vi hvx hvt he (t := (t1, t2))
  obtain ⟨⟨a1, a2⟩, hva'⟩ : ∃ y, evT X (t1, t2) a = y := ⟨_, rfl⟩
  have hev : evT X (t1, t2) (.e1 ⟨5, n, lo, hi⟩ a) = opI 5 (a1, a2) (a1, a2) := by
    rw [evT_one, hva']
  rw [hva'] at hva ih
  dsimp only at hva ih
  have hbd := hva.bd
  have q0 := heapN_cellj H3.out.bn (k := 0) rfl
  have KF := Lib.hid (fun w => iv_square a1 a2 w hva)
  rw [hev, show opI 5 (a1, a2) (a1, a2) = (sqLo a1 a2, sqHi a1 a2) from rfl]
  clear he h
  go_enter Tryz.func82, Tryz.ntmps82
  go_wp2_with (fail)
  refine (ih _ _ H3.out).mono ?_
  rintro e w5 ⟨v', rfl, h5, o5⟩
  have H5 := Lib.hid h5
  have O5 := Lib.hid (O3.out.trans o5)
  have hr5 := (o5.blk W.heap.size (Array.getElem?_eq_some_iff.1 HR3.out).1 (by omega)).trans HR3.out
  have HR5 := Lib.hid hr5
  clear h5 o5 hr5 n0 n1 n2 n3 y0 y1 z0 z1 q0
  as_aux_lemma =>
    go_wp2_with (fail)
    refine (KF.out _).mono ?_
    rintro e w6 ⟨rfl, hB⟩
    have HR6 := Lib.hid ((hB.block W.heap.size (Array.getElem?_eq_some_iff.1 HR5.out).1).trans HR5.out)
    have H6 := Lib.hid (H5.out.grow hB)
    have O6 := Lib.hid (O5.out.trans (Oth.ofBelow hB))
    clear hB
    have y0 := heapN_cellj HR6.out (k := 0) rfl
    have y1 := heapN_cellj HR6.out (k := 1) rfl
    have z0 : w6.frozen? ⟨W.heap.size, 0, none⟩ = false := by simp [World.frozen?, show w6.heap[W.heap.size]? = some (.cells #[.int .i64 0, .int .i64 0] 26 (0, 0)) from HR6.out]
    have z1 : w6.frozen? ⟨W.heap.size, 1, none⟩ = false := by simp [World.frozen?, show w6.heap[W.heap.size]? = some (.cells #[.int .i64 0, .int .i64 0] 26 (0, 0)) from HR6.out]
    go_wp2_with (fail)
    have hs := cellsT_setN (o := 1) (u := .int .i64 (sqHi a1 a2)) (cellsT_setN (o := 0) (u := .int .i64 (sqLo a1 a2)) HR6.out)
    have x0 := heapN_cellj hs (k := 0) (u := .int .i64 (sqLo a1 a2)) rfl
    have x1 := heapN_cellj hs (k := 1) (u := .int .i64 (sqHi a1 a2)) rfl
    exact bodyPost_ret (v := .agg #[.int .i64 (sqLo a1 a2), .int .i64 (sqHi a1 a2)]) (by simp [results, Tryz.results82, go_sem, x0, x1]) rfl ⟨_, rfl, HH.out.set (HH.out.set H6.out (Nat.le_refl _) 0 _) (Nat.le_refl _) 1 _, (O6.out.setO (Nat.le_refl _) 0 _).setO (Nat.le_refl _) 1 _⟩
end Go.Proofs.YtbppfohcicepcaaGreat
namespace Go.Proofs.YtbppfohcicepcaaGreat
open Go.ChangeShapes Go.WideShapes Go.ChangeAt Go.RowKit Go.Maps
set_option linter.unusedVariables false
set_option linter.unusedSimpArgs false
set_option maxRecDepth 100000
attribute [local irreducible] Calls
set_option maxRecDepth 1000000 in
set_option maxHeartbeats 16000000 in
theorem ev_rt (W0 : World) (rb xb tb nb mb mm : Nat) (xv : Value) (t1 t2 : Int) (X : List (Int × Int)) (N : Int) (hxv : Vx W0 xv X) (hN : (X.length : Int) = N) (hvx : ∀ p ∈ X, VI p.1 p.2) (hvt : VI t1 t2) (n lo hi : Int) (a : Ex) (he : EV N a) (ih : ∀ (R : List Nd) (v : Value) (W : World), EvS W0 rb xb tb nb mb mm xv t1 t2 v (pre a ++ R) W → Calls Tryz.prog 82 #[.pointer (some ⟨rb, 0, none⟩), .pointer (some ⟨xb, 0, none⟩), .pointer (some ⟨tb, 0, none⟩), .pointer (some ⟨nb, 0, none⟩), .pointer (some ⟨mb, 0, none⟩)] W fun en w' => ∃ v', en = .returned (.agg #[.int .i64 (evT X (t1, t2) (a)).1, .int .i64 (evT X (t1, t2) (a)).2]) ∧ EvS W0 rb xb tb nb mb mm xv t1 t2 v' R w' ∧ Oth rb W w') (R RR : List Nd) (hRR : pre a ++ R = RR) (v : Value) (W : World) (h : EvS W0 rb xb tb nb mb mm xv t1 t2 v (⟨6, n, lo, hi⟩ :: RR) W) :
    Calls Tryz.prog 82 #[.pointer (some ⟨rb, 0, none⟩), .pointer (some ⟨xb, 0, none⟩), .pointer (some ⟨tb, 0, none⟩), .pointer (some ⟨nb, 0, none⟩), .pointer (some ⟨mb, 0, none⟩)] W fun en w' => ∃ v', en = .returned (.agg #[.int .i64 (evT X (t1, t2) (.e1 ⟨6, n, lo, hi⟩ a)).1, .int .i64 (evT X (t1, t2) (.e1 ⟨6, n, lo, hi⟩ a)).2]) ∧ EvS W0 rb xb tb nb mb mm xv t1 t2 v' R w' ∧ Oth rb W w' := by
  have ih := ih R
  rw [hRR] at ih
  clear hRR
  obtain ⟨hnx, p, c, rfl, hcap, hpc⟩ := h.nx
  obtain ⟨q, cc, hV, hsl⟩ := rest_cut hnx hcap
  obtain ⟨b, o, rfl, hbs, rd⟩ := nd_rd (i := 0) hnx rfl
  have i1 : (0 : Int) < (RR.length : Int) + 1 := by omega
  have hS1 : Below W.heap.size W (W.alloc (.cells #[.int .i64 0, .int .i64 0] 26)) := (Below.refl _ _).alloc (Nat.le_refl _) _
  have hS2 : Below (W.alloc (.cells #[.int .i64 0, .int .i64 0] 26)).heap.size (W.alloc (.cells #[.int .i64 0, .int .i64 0] 26)) ((W.alloc (.cells #[.int .i64 0, .int .i64 0] 26)).alloc (.cells #[.int .i64 6, .int .i64 n, .int .i64 lo, .int .i64 hi] 63)) := (Below.refl _ _).alloc (Nat.le_refl _) _
  have E1 := h.grow hS1
  have E2 := E1.grow hS2
  have hrl := h.lt
  have hsz : (W.setCell ⟨rb, 0, none⟩ (.slice q RR.length cc)).heap.size = W.heap.size := by simp
  have hT1 : Below (W.setCell ⟨rb, 0, none⟩ (.slice q RR.length cc)).heap.size (W.setCell ⟨rb, 0, none⟩ (.slice q RR.length cc)) ((W.setCell ⟨rb, 0, none⟩ (.slice q RR.length cc)).alloc (.cells #[.int .i64 0, .int .i64 0] 26)) := (Below.refl _ _).alloc (Nat.le_refl _) _
  have hT2 : Below ((W.setCell ⟨rb, 0, none⟩ (.slice q RR.length cc)).alloc (.cells #[.int .i64 0, .int .i64 0] 26)).heap.size ((W.setCell ⟨rb, 0, none⟩ (.slice q RR.length cc)).alloc (.cells #[.int .i64 0, .int .i64 0] 26)) (((W.setCell ⟨rb, 0, none⟩ (.slice q RR.length cc)).alloc (.cells #[.int .i64 0, .int .i64 0] 26)).alloc (.cells #[.int .i64 6, .int .i64 n, .int .i64 lo, .int .i64 hi] 63)) := (Below.refl _ _).alloc (Nat.le_refl _) _
  have E3 := ((h.put hV).grow hT1).grow hT2
  have r1 := heapN_cellj E1.br (k := 0) rfl
  have r2 := heapN_cellj E2.br (k := 0) rfl
  have z2 : ((W.alloc (.cells #[.int .i64 0, .int .i64 0] 26)).alloc (.cells #[.int .i64 6, .int .i64 n, .int .i64 lo, .int .i64 hi] 63)).frozen? ⟨rb, 0, none⟩ = false := by simp [World.frozen?, E2.br]
  obtain ⟨f0, f1, f2, f3⟩ := rd ⟨_, E1.bel⟩
  rw [Nat.zero_mul, Nat.add_zero] at f0 f1 f2 f3
  dsimp only at f0 f1 f2 f3
  have hnd : (((W.setCell ⟨rb, 0, none⟩ (.slice q RR.length cc)).alloc (.cells #[.int .i64 0, .int .i64 0] 26)).alloc (.cells #[.int .i64 6, .int .i64 n, .int .i64 lo, .int .i64 hi] 63)).heap[W.heap.size + 1]? = some (.cells #[.int .i64 6, .int .i64 n, .int .i64 lo, .int .i64 hi] 63 (0, 0)) := by
    have := World.alloc_heap_new ((W.setCell ⟨rb, 0, none⟩ (.slice q RR.length cc)).alloc (.cells #[.int .i64 0, .int .i64 0] 26)) (.cells #[.int .i64 6, .int .i64 n, .int .i64 lo, .int .i64 hi] 63)
    rwa [alloc_sz, hsz] at this
  have hrs : (((W.setCell ⟨rb, 0, none⟩ (.slice q RR.length cc)).alloc (.cells #[.int .i64 0, .int .i64 0] 26)).alloc (.cells #[.int .i64 6, .int .i64 n, .int .i64 lo, .int .i64 hi] 63)).heap[W.heap.size]? = some (.cells #[.int .i64 0, .int .i64 0] 26 (0, 0)) := by
    have h1 := World.alloc_heap_new (W.setCell ⟨rb, 0, none⟩ (.slice q RR.length cc)) (.cells #[.int .i64 0, .int .i64 0] 26)
    rw [hsz] at h1
    exact (hT2.block W.heap.size (by rw [alloc_sz, hsz]; omega)).trans h1
  have o3 : Oth rb W (((W.setCell ⟨rb, 0, none⟩ (.slice q RR.length cc)).alloc (.cells #[.int .i64 0, .int .i64 0] 26)).alloc (.cells #[.int .i64 6, .int .i64 n, .int .i64 lo, .int .i64 hi] 63)) := (Oth.set rb W (.slice q RR.length cc)).trans (Oth.ofBelow (hT1.trans (hT2.mono hT1.size)))
  have H3g := Lib.hid (fun (u1 u2 : Value) => show EvS W0 rb xb tb nb mb mm xv t1 t2 (.slice q RR.length cc) RR (((W.setCell ⟨rb, 0, none⟩ (.slice q RR.length cc)).alloc (.cells #[u1, u2] 26)).alloc (.cells #[.int .i64 6, .int .i64 n, .int .i64 lo, .int .i64 hi] 63)) from ((h.put hV).grow ((Below.refl _ _).alloc (Nat.le_refl _) _)).grow ((Below.refl _ _).alloc (Nat.le_refl _) _))
  have O3g := Lib.hid (fun (u1 u2 : Value) => show Oth rb W (((W.setCell ⟨rb, 0, none⟩ (.slice q RR.length cc)).alloc (.cells #[u1, u2] 26)).alloc (.cells #[.int .i64 6, .int .i64 n, .int .i64 lo, .int .i64 hi] 63)) from (Oth.set rb W (.slice q RR.length cc)).trans ((Oth.ofBelow ((Below.refl _ _).alloc (Nat.le_refl _) _)).trans (Oth.ofBelow ((Below.refl _ _).alloc (Nat.le_refl _) _))))
  have H3 := Lib.hid E3
  have HN3 := Lib.hid hnd
  have HR3 := Lib.hid hrs
  have O3 := Lib.hid o3
  clear hS1 hS2 E1 E2 E3 hnd hrs o3 rd hpc hV hnx hT1 hT2 hsz
  simp only [List.length_cons] at r1 r2
  have n0 := heapN_cellj HN3.out (k := 0) rfl
  have n1 := heapN_cellj HN3.out (k := 1) rfl
  have n2 := heapN_cellj HN3.out (k := 2) rfl
  have n3 := heapN_cellj HN3.out (k := 3) rfl
  have y0 := heapN_cellj HR3.out (k := 0) rfl
  have y1 := heapN_cellj HR3.out (k := 1) rfl
  have z0 : (((W.setCell ⟨rb, 0, none⟩ (.slice q RR.length cc)).alloc (.cells #[.int .i64 0, .int .i64 0] 26)).alloc (.cells #[.int .i64 6, .int .i64 n, .int .i64 lo, .int .i64 hi] 63)).frozen? ⟨W.heap.size, 0, none⟩ = false := by simp [World.frozen?, show (((W.setCell ⟨rb, 0, none⟩ (.slice q RR.length cc)).alloc (.cells #[.int .i64 0, .int .i64 0] 26)).alloc (.cells #[.int .i64 6, .int .i64 n, .int .i64 lo, .int .i64 hi] 63)).heap[W.heap.size]? = some (.cells #[.int .i64 0, .int .i64 0] 26 (0, 0)) from HR3.out]
  have z1 : (((W.setCell ⟨rb, 0, none⟩ (.slice q RR.length cc)).alloc (.cells #[.int .i64 0, .int .i64 0] 26)).alloc (.cells #[.int .i64 6, .int .i64 n, .int .i64 lo, .int .i64 hi] 63)).frozen? ⟨W.heap.size, 1, none⟩ = false := by simp [World.frozen?, show (((W.setCell ⟨rb, 0, none⟩ (.slice q RR.length cc)).alloc (.cells #[.int .i64 0, .int .i64 0] 26)).alloc (.cells #[.int .i64 6, .int .i64 n, .int .i64 lo, .int .i64 hi] 63)).heap[W.heap.size]? = some (.cells #[.int .i64 0, .int .i64 0] 26 (0, 0)) from HR3.out]
  have HH := Lib.hid h
  have hev0 := h.bel.size
  have hva := evT_vi hvx hvt he (t := (t1, t2))
  obtain ⟨⟨a1, a2⟩, hva'⟩ : ∃ y, evT X (t1, t2) a = y := ⟨_, rfl⟩
  have hev : evT X (t1, t2) (.e1 ⟨6, n, lo, hi⟩ a) = opI 6 (a1, a2) (a1, a2) := by
    rw [evT_one, hva']
  rw [hva'] at hva ih
  dsimp only at hva ih
  have hbd := hva.bd
  have q0 := heapN_cellj H3.out.bn (k := 0) rfl
  obtain ⟨⟨c1, c2⟩, hrt⟩ : ∃ y, rtI (a1, a2) = y := ⟨_, rfl⟩
  have KF0 := fun w => rootE_ok a1 a2 w hva
  rw [hrt] at KF0
  dsimp only at KF0
  have KF := Lib.hid (fun w => KF0 w)
  rw [hev, opI_six, hrt]
  clear he h hev hrt KF0
  go_enter Tryz.func82, Tryz.ntmps82
  go_wp2_with (fail)
  refine (ih _ _ H3.out).mono ?_
  rintro e w5 ⟨v', rfl, h5, o5⟩
  have H5 := Lib.hid h5
  have O5 := Lib.hid (O3.out.trans o5)
  have hr5 := (o5.blk W.heap.size (Array.getElem?_eq_some_iff.1 HR3.out).1 (by omega)).trans HR3.out
  have HR5 := Lib.hid hr5
  clear h5 o5 hr5 n0 n1 n2 n3 y0 y1 z0 z1 q0
  as_aux_lemma =>
    go_wp2_with (fail)
    refine (KF.out _).mono ?_
    rintro e w6 ⟨rfl, hB⟩
    have HR6 := Lib.hid ((hB.block W.heap.size (Array.getElem?_eq_some_iff.1 HR5.out).1).trans HR5.out)
    have H6 := Lib.hid (H5.out.grow hB)
    have O6 := Lib.hid (O5.out.trans (Oth.ofBelow hB))
    clear hB
    have y0 := heapN_cellj HR6.out (k := 0) rfl
    have y1 := heapN_cellj HR6.out (k := 1) rfl
    have z0 : w6.frozen? ⟨W.heap.size, 0, none⟩ = false := by simp [World.frozen?, show w6.heap[W.heap.size]? = some (.cells #[.int .i64 0, .int .i64 0] 26 (0, 0)) from HR6.out]
    have z1 : w6.frozen? ⟨W.heap.size, 1, none⟩ = false := by simp [World.frozen?, show w6.heap[W.heap.size]? = some (.cells #[.int .i64 0, .int .i64 0] 26 (0, 0)) from HR6.out]
    go_wp2_with (fail)
    have hs := cellsT_setN (o := 1) (u := .int .i64 c2) (cellsT_setN (o := 0) (u := .int .i64 c1) HR6.out)
    have x0 := heapN_cellj hs (k := 0) (u := .int .i64 c1) rfl
    have x1 := heapN_cellj hs (k := 1) (u := .int .i64 c2) rfl
    exact bodyPost_ret (v := .agg #[.int .i64 c1, .int .i64 c2]) (by simp [results, Tryz.results82, go_sem, x0, x1]) rfl ⟨_, rfl, HH.out.set (HH.out.set H6.out (Nat.le_refl _) 0 _) (Nat.le_refl _) 1 _, (O6.out.setO (Nat.le_refl _) 0 _).setO (Nat.le_refl _) 1 _⟩
end Go.Proofs.YtbppfohcicepcaaGreat
