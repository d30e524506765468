/-
  Md7 Jn LJi
-/
import Derived.Test.YteibdnjjfjplpaaKaa
import Derived.Test.YteibdnjjfjplpaaKaza
import Derived.Test.YteibdnjjfjplpaaKazc
namespace Go.Proofs.Yteibdnjjfjplpaa
open Go.ChangeShapes Go.WideShapes Go.ChangeAt Go.RowKit
set_option linter.unusedVariables false
set_option linter.unusedSimpArgs false
set_option maxRecDepth 100000
attribute [local irreducible] Calls
theorem nx_take {w : World} {p : Option Addr} {c m k : Nat} {l : List Nd} (h : Nx w (.slice p k c) l) (hm : m ≤ l.length) : Nx w (.slice p m c) (l.take m) := by
  obtain ⟨h1, p', c', e, h2⟩ := h
  cases e
  refine ⟨by rw [List.length_take]; omega, p, c, by rw [List.length_take, Nat.min_eq_left hm], fun i x hx => ?_⟩
  rw [List.getElem?_take] at hx
  split at hx
  · exact h2 i x hx
  · cases hx
end Go.Proofs.Yteibdnjjfjplpaa
namespace Go.Proofs.Yteibdnjjfjplpaa
open Go.ChangeShapes Go.WideShapes Go.ChangeAt Go.RowKit
set_option linter.unusedVariables false
set_option linter.unusedSimpArgs false
set_option maxRecDepth 100000
attribute [local irreducible] Calls
set_option maxHeartbeats 8000000 in
theorem Made7w_ok (n : Int) (hn : 1 ≤ n ∧ n ≤ 6) (most : Nat) (hm : most ≤ 1000) (vr : Value) (Rw : List Nd) (w : World) (hr : NxC w vr Rw) :
    Calls Try.prog 6 #[vr, .int .i64 most, .int .i64 n] w fun e w' => ∃ v t, e = .returned v ∧ w'.ownsRow w.heap.size 33 4 v (pre t).length (cr encN (pre t)) ∧ EV n t ∧ (pre t).length < 32 ∧ Below w.heap.size w w' := by
  obtain ⟨hnx, p, c, rfl, hlc, hpc⟩ := hr
  have hsm := hnx.1
  unfold maxLen at hsm
  obtain ⟨k, hk⟩ : ∃ k, min Rw.length most = k := ⟨_, rfl⟩
  have hk1 : k ≤ Rw.length := by omega
  have hk2 : k ≤ most := by omega
  have hkl : (Rw.take k).length = k := by rw [List.length_take]; omega
  have hmin : min (Rw.length : Int) (most : Int) = (k : Int) := by omega
  have hE : Below w.heap.size w (w.alloc (.cells #[.slice p k c, .int .i64 n] 54)) := allocs_below [.cells #[.slice p k c, .int .i64 n] 54] w
  have hblk := World.alloc_heap_new w (.cells #[.slice p k c, .int .i64 n] 54)
  have hbu : Bu w w.heap.size n (Rw.take k) (w.alloc (.cells #[.slice p k c, .int .i64 n] 54)) := ⟨Nat.le_refl _, hE, p, c, by rw [hkl]; exact hblk, by rw [hkl]; exact nx_take hnx hk1, by omega⟩
  have KB := Lib.hid (show Calls Try.prog 21 #[.pointer (some ⟨w.heap.size, 0, none⟩), .int .i64 5] (w.alloc (.cells #[.slice p k c, .int .i64 n] 54)) _ from build_ok w w.heap.size n hn most hm 5 (by decide) (by decide) (Rw.take k) _ (by rw [hkl]; exact hk2) hbu)
  have HE := Lib.hid hE
  have hk3 : (k : Int) ≤ c := by omega
  have i1 : (0 : Int) ≤ k := by omega
  clear hE hblk hbu hnx hkl
  rcases Nat.lt_or_ge most Rw.length with hle | hle
  · obtain rfl : most = k := by omega
    have j1 : ¬ (Rw.length : Int) ≤ most := by omega
    have j2 : (most : Int) < Rw.length := by omega
    have j3 : most < Rw.length := by omega
    clear hmin hk hk1 hk2 hle
    go_enter Try.func6, Try.ntmps6
    go_wp2_with (fail)
    refine KB.out.mono ?_
    rintro e w1 ⟨v, rfl, ⟨t, R', hO, hEV, hlen, hB', hR'⟩, hg⟩
    have hB := Below.grown HE.out hg HE.out.size (fun i e => by cases e; exact Nat.le_refl _)
    have HO := Lib.hid (own_base7 hO HE.out.size)
    have HB := Lib.hid hB
    have HEV := Lib.hid hEV
    have HLN := Lib.hid hlen
    clear hO hEV hlen hB' hR' hg hB
    go_wp2_with (fail)
    go_ret
    exact ⟨v, t, rfl, HO.out, HEV.out, HLN.out, HB.out⟩
  · obtain rfl : Rw.length = k := by omega
    have j1 : (Rw.length : Int) ≤ most := by omega
    have j2 : ¬ (most : Int) < Rw.length := by omega
    have j3 : ¬ (most < Rw.length) := by omega
    clear hmin hk hk1 hk2 hle
    go_enter Try.func6, Try.ntmps6
    go_wp2_with (fail)
    refine KB.out.mono ?_
    rintro e w1 ⟨v, rfl, ⟨t, R', hO, hEV, hlen, hB', hR'⟩, hg⟩
    have hB := Below.grown HE.out hg HE.out.size (fun i e => by cases e; exact Nat.le_refl _)
    have HO := Lib.hid (own_base7 hO HE.out.size)
    have HB := Lib.hid hB
    have HEV := Lib.hid hEV
    have HLN := Lib.hid hlen
    clear hO hEV hlen hB' hR' hg hB
    go_wp2_with (fail)
    go_ret
    exact ⟨v, t, rfl, HO.out, HEV.out, HLN.out, HB.out⟩
theorem ev_mem {N : Int} : ∀ {e : Ex}, EV N e → ∀ y ∈ pre e, vnB N y = true
  | .e0 x, h, y, hy => by simp [pre] at hy; subst hy; exact h.2
  | .e1 x a, h, y, hy => by
    simp [pre] at hy
    rcases hy with rfl | hy
    · exact h.1.2
    · exact ev_mem h.2 y hy
  | .e2 x a b, h, y, hy => by
    simp [pre] at hy
    rcases hy with rfl | hy | hy
    · exact h.1.2
    · exact ev_mem h.2.1 y hy
    · exact ev_mem h.2.2 y hy
theorem dim_ok (vF vE vX : Value) (lo hi n : Int) (w : World) (h0 : 0 ≤ n) (h1 : n ≤ 255) : Calls Try.prog 5 #[.agg #[vF, vE, vX, .int .i64 lo, .int .i64 hi, .int .u8 n]] w fun e w' => e = .returned (.int .i64 (1 + n % 3)) ∧ Below w.heap.size w w' := by
  go_enter Try.func5, Try.ntmps5
  go_wp2_with (fail)
  go_ret
  exact ⟨rfl, (Below.refl _ _).alloc (Nat.le_refl _) _⟩
set_option maxHeartbeats 4000000 in
theorem occurs_ok (v : Value) (l : List Nd) (x : Nd) (w : World) (hv : Nx w v l) :
    Calls Try.prog 9 #[v, .agg #[.int .i64 x.op, .int .i64 x.n, .int .i64 x.lo, .int .i64 x.hi]] w fun e w' => e = .returned (.bool (decide (x ∈ l))) ∧ Below w.heap.size w w' := by
  obtain ⟨p, c, rfl⟩ := hv.cut
  have hl := hv.1
  unfold maxLen at hl
  have hA : Below w.heap.size w (w.alloc (.cells #[.int .i64 x.op, .int .i64 x.n, .int .i64 x.lo, .int .i64 x.hi] 33)) := (Below.refl _ _).alloc (Nat.le_refl _) _
  have HX := Lib.hid (NdC.new w x)
  have HV := Lib.hid (hv.grow hA)
  have HA := Lib.hid hA
  obtain ⟨E, hE⟩ : ∃ E, w.alloc (.cells #[.int .i64 x.op, .int .i64 x.n, .int .i64 x.lo, .int .i64 x.hi] 33) = E := ⟨_, rfl⟩
  rw [hE] at HX HV HA
  have HEE := Lib.hid hE
  generalize hres : decide (x ∈ l) = res
  have HRS := Lib.hid hres
  obtain ⟨op', n', lo', hi'⟩ := x
  dsimp only at HEE
  clear hv hA hE hres
  go_enter Try.func9, Try.ntmps9
  go_wp2_with (fail)
  rw [HEE.out]
  go_loopw [5] (fun c wr => ∃ k : Nat, c = .int .i64 k ∧ k ≤ l.length ∧ Hid ((⟨op', n', lo', hi'⟩ : Nd) ∉ l.take k) ∧ Hid (Below E.heap.size E wr)) (fun c _ => l.length - (intOf c).toNat)
  case atStart => exact ⟨0, rfl, Nat.zero_le _, Lib.hid (by simp), Lib.hid (Below.refl _ _)⟩
  case round =>
    obtain ⟨k, rfl, hk, ht, HB⟩ := hrel
    by_cases hlt : k < l.length
    · obtain ⟨b, o, op, n, lo, hi, rfl, hx, hb, c0, c1, c2, c3⟩ := nd_get HV.out hlt HB.out
      have hm := HX.out.grow HB.out
      have d0 := hm.c0
      have d1 := hm.c1
      have d2 := hm.c2
      have d3 := hm.c3
      dsimp only at d0 d1 d2 d3
      have HXX := Lib.hid hx
      clear hx hm
      by_cases hxy : (⟨op, n, lo, hi⟩ : Nd) = ⟨op', n', lo', hi'⟩
      · cases hxy
        have hr : res = true := by rw [← HRS.out]; exact decide_eq_true (List.mem_of_getElem? HXX.out)
        subst hr
        go_wp2_with (fail)
        go_quiet (fail)
        go_wp2_with (fail)
        go_ret
        exact ⟨rfl, below_drewN (below_then HA.out HB.out) _⟩
      · have ht2 : (⟨op', n', lo', hi'⟩ : Nd) ∉ l.take (k + 1) := by
          rw [List.take_add_one, HXX.out]
          simp only [Option.toList_some, List.mem_append, List.mem_singleton, not_or]
          exact ⟨ht.out, fun e => hxy e.symm⟩
        have HT2 := Lib.hid ht2
        clear ht2 ht
        by_cases e0 : op = op'
        · subst e0
          by_cases e1 : n = n'
          · subst e1
            by_cases e2 : lo = lo'
            · subst e2
              have e3 : (hi == hi') = false := by rw [beq_eq_false_iff_ne]; exact fun e => hxy (by rw [e])
              clear hxy
              go_wp2_with (fail)
              go_quiet (fail)
              go_wp2_with (fail)
              go_roundw
              case rel => exact ⟨k + 1, by go_num, by omega, HT2, Lib.hid (below_drewN HB.out _)⟩
              case measure => simp [intOf]; omega
            · have f2 : (lo == lo') = false := by rw [beq_eq_false_iff_ne]; exact e2
              clear hxy e2
              go_wp2_with (fail)
              go_quiet (fail)
              go_wp2_with (fail)
              go_roundw
              case rel => exact ⟨k + 1, by go_num, by omega, HT2, Lib.hid (below_drewN HB.out _)⟩
              case measure => simp [intOf]; omega
          · have f1 : (n == n') = false := by rw [beq_eq_false_iff_ne]; exact e1
            clear hxy e1
            go_wp2_with (fail)
            go_quiet (fail)
            go_wp2_with (fail)
            go_roundw
            case rel => exact ⟨k + 1, by go_num, by omega, HT2, Lib.hid (below_drewN HB.out _)⟩
            case measure => simp [intOf]; omega
        · have f0 : (op == op') = false := by rw [beq_eq_false_iff_ne]; exact e0
          clear hxy e0
          go_wp2_with (fail)
          go_quiet (fail)
          go_wp2_with (fail)
          go_roundw
          case rel => exact ⟨k + 1, by go_num, by omega, HT2, Lib.hid (below_drewN HB.out _)⟩
          case measure => simp [intOf]; omega
    · obtain rfl : k = l.length := by omega
      have hr : res = false := by
        rw [← HRS.out, decide_eq_false_iff_not]
        have := ht.out
        rwa [List.take_of_length_le (Nat.le_refl _)] at this
      subst hr
      go_wp2_with (fail)
      go_ret
      exact ⟨rfl, below_then HA.out HB.out⟩
theorem is0_ok (v : Value) (w : World) (hv : NxC w v (pre (pt 0))) : Calls Try.prog 10 #[v, .int .i64 0] w fun e w' => e = .returned (.bool true) ∧ Below w.heap.size w w' := by
  obtain ⟨p, c, rfl⟩ := hv.1.cut
  obtain ⟨b, o, rfl, hb, rd⟩ := nd_rd (i := 0) hv.1 (x := ⟨1, 0, 0, 0⟩) rfl
  obtain ⟨x0, x1, x2, x3⟩ := rd ⟨w, Below.refl _ _⟩
  simp only [Nat.zero_mul, Nat.add_zero] at x0 x1 x2 x3
  clear rd hv
  change Calls Try.prog 10 #[.slice (some ⟨b, o, none⟩) 1 c, .int .i64 0] w _
  go_enter Try.func10, Try.ntmps10
  go_wp2_with (fail)
  go_ret
  exact ⟨rfl, Below.refl _ _⟩
section
variable {H : Type} {enc : TypeId × Value → H} {w : World} {base : Nat} {spare : Nat → Bool} {held : Bool}
theorem nx_read {fuel : Nat} {c : Value} {y : DataW H × List MemPlace} (h : DataW.trod enc Try.prog w base spare held fuel 23 [c] = some y) : ∃ l : List Nd, NxC w c l ∧ ∀ x ∈ l, NW x := by
  have h2 : Try.prog.cellsOf 33 = 4 := by kernel_rfl
  have h1 : Try.prog.cellsOf 3 = 1 := by kernel_rfl
  have h3 : Try.prog.cellsOf 26 = 2 := by kernel_rfl
  have h4 : Try.prog.cellsOf 2 = 1 := by kernel_rfl
  rcases Go.Deep.open_slice Try.underlying23 h with ⟨hc, _⟩ | ⟨a, len, cap, m, n, D, Pl, hc, _, hl, hm, hmm, _, hi⟩
  · obtain rfl : c = .slice none 0 0 := by simpa using hc
    exact ⟨[], ⟨Rx.nil _ _ _, none, 0, rfl, Nat.le_refl _, fun _ => rfl⟩, fun p hp => by simp at hp⟩
  · obtain rfl : c = .slice (some a) len cap := by simpa using hc
    rw [h2] at hi
    have hlm : len ≤ m := by rw [hmm]; split <;> omega
    obtain ⟨l, hl1, hl2⟩ := rx_of (w := w) (a := a) (len := len) (cap := cap) (en := encN) (sz := 4) (P := NW) ⟨0, 0, 0, 0⟩ (by omega) (fun x => ⟨_, rfl⟩) (fun i hil => by
      obtain ⟨cs, hcs, ht⟩ := hi i (by omega)
      obtain ⟨_, hcl, hat⟩ := World.cells?_some hcs
      obtain ⟨xs, n', _, _, _, hlen, hg⟩ := DataW.trod_struct Try.underlying33 ht
      match cs, hcl with
      | [c0, c1, c2, c3], _ =>
        match xs, hlen with
        | [y0, y1, y2], _ =>
          have g0 := hg 0 _ rfl
          have g1 := hg 1 _ rfl
          have g2 := hg 2 _ rfl
          simp [h1, h3] at g0 g1 g2
          obtain ⟨k0, e0, _, w0⟩ := DataW.trod_int Try.underlying3 g0
          obtain ⟨k1, e1, _, w1⟩ := DataW.trod_int Try.underlying3 g1
          obtain ⟨zs, n2, _, _, _, hlen2, hg2⟩ := DataW.trod_struct Try.underlying26 g2
          match zs, hlen2 with
          | [z0, z1], _ =>
            have j0 := hg2 0 _ rfl
            have j1 := hg2 1 _ rfl
            simp [h4] at j0 j1
            obtain ⟨k2, e2, _, w2⟩ := DataW.trod_int Try.underlying2 j0
            obtain ⟨k3, e3, _, w3⟩ := DataW.trod_int Try.underlying2 j1
            simp at e0 e1 e2 e3
            subst e0 e1 e2 e3
            refine ⟨⟨k0, k1, k2, k3⟩, ⟨wf64t w0, wf64t w1, wf64t w2, wf64t w3⟩, fun j u hj => ?_⟩
            have hk : j < 4 := by have := (List.getElem?_eq_some_iff.1 hj).1; simpa [encN] using this
            have q := hat j (by omega)
            rw [Go.Deep.add_add] at q
            rw [q, ← hj]
            rfl)
    obtain ⟨_, p', c', e', _⟩ := id hl1
    simp only [Value.slice.injEq] at e'
    have hlen : l.length = len := e'.2.1.symm
    exact ⟨l, ⟨hl1, _, _, by rw [hlen], by omega, fun h => by cases h⟩, hl2⟩
theorem open_input10 {r : Reach} {b0 : Nat} {v : Value} {d : DataW H} {p : List MemPlace} (hv : Value.okWide Try.prog w r b0 28 v) (h : DataW.Trod enc Try.prog w base spare held 28 v d p) :
    ∃ (vF vE vX : Value) (lo hi n : Int) (l : List Nd) (X : List (Int × Int)), v = .agg #[vF, vE, vX, .int .i64 lo, .int .i64 hi, .int .u8 n] ∧ (NxC w vE l ∧ ∀ x ∈ l, NW x) ∧ (Vx w vX X ∧ ∀ q ∈ X, W64 q.1 ∧ W64 q.2) ∧ (W64 lo ∧ W64 hi) ∧ 0 ≤ n ∧ n ≤ 255 := by
  have k1 : Try.prog.cellsOf 24 = 1 := by kernel_rfl
  have k2 : Try.prog.cellsOf 2 = 1 := by kernel_rfl
  have k3 : Try.prog.cellsOf 5 = 1 := by kernel_rfl
  have k4 : Try.prog.cellsOf 23 = 1 := by kernel_rfl
  have k5 : Try.prog.cellsOf 26 = 2 := by kernel_rfl
  have k6 : Try.prog.cellsOf 22 = 1 := by kernel_rfl
  obtain ⟨cs, rfl, hsz⟩ := okWide_struct Try.underlying28 hv
  obtain ⟨l⟩ := cs
  match l, hsz.trans (show Try.prog.cellsOf 28 = 6 by kernel_rfl) with
  | [c0, c1, c2, c3, c4, c5], _ =>
    obtain ⟨fuel, hf⟩ := h
    obtain ⟨xs, n, _, _, _, hlen, hg⟩ := DataW.trod_struct Try.underlying28 hf
    match xs, hlen with
    | [y0, y1, y2, y3, y4], _ =>
      have g1 := hg 1 _ rfl
      have g2 := hg 2 _ rfl
      have g3 := hg 3 _ rfl
      have g4 := hg 4 _ rfl
      simp [Value.cells, k1, k2, k3, k4, k5, k6] at g1 g2 g3 g4
      obtain ⟨L, a1, a2⟩ := nx_read g1
      obtain ⟨X, x1, x2⟩ := vx_read g2
      obtain ⟨zs, n', _, _, _, hlen', hg'⟩ := DataW.trod_struct Try.underlying26 g3
      match zs, hlen' with
      | [z0, z1], _ =>
        have j0 := hg' 0 _ rfl
        have j1 := hg' 1 _ rfl
        simp [k2] at j0 j1
        obtain ⟨p3, e3, _, w3⟩ := DataW.trod_int Try.underlying2 j0
        obtain ⟨p4, e4, _, w4⟩ := DataW.trod_int Try.underlying2 j1
        obtain ⟨p5, e5, _, w5⟩ := DataW.trod_int Try.underlying5 g4
        simp at e3 e4 e5
        subst e3 e4 e5
        have hn : 0 ≤ p5 ∧ p5 ≤ 255 := by
          simp [Lit.wf, IntKind.has, IntKind.min, IntKind.max, IntKind.signed, IntKind.bits] at w5
          omega
        exact ⟨c0, c1, c2, p3, p4, p5, L, X, rfl, ⟨a1, a2⟩, ⟨x1, x2⟩, ⟨wf64t w3, wf64t w4⟩, hn.1, hn.2⟩
end
end Go.Proofs.Yteibdnjjfjplpaa
namespace Go.Proofs.Yteibdnjjfjplpaa
open Go.ChangeShapes Go.WideShapes Go.ChangeAt Go.RowKit
set_option linter.unusedVariables false
set_option linter.unusedSimpArgs false
set_option maxRecDepth 100000
attribute [local irreducible] Calls
theorem arI_2 : arI 2 = 0 := by decide
theorem arI_3 : arI 3 = 0 := by decide
set_option maxHeartbeats 32000000 in
theorem indep (w : World) (vF vE vX : Value) (lo hi n : Int) (l : List Nd) (X : List (Int × Int)) (hE : NxC w vE l ∧ ∀ x ∈ l, NW x) (hX : Vx w vX X ∧ ∀ q ∈ X, W64 q.1 ∧ W64 q.2) (ht : W64 lo ∧ W64 hi) (h0 : 0 ≤ n) (h1 : n ≤ 255) :
    Calls Try.prog 3 #[.agg #[vF, vE, vX, .int .i64 lo, .int .i64 hi, .int .u8 n]] w fun e w' => e = .returned (.bool true) ∧ Below w.heap.size w w' := by
  obtain ⟨pE, cE, hvE⟩ : ∃ q cq, vE = .slice q l.length cq := by obtain ⟨⟨_, p, c, e1, _⟩, _⟩ := hE; exact ⟨p, c, e1⟩
  subst hvE
  obtain ⟨N, hN, hN1, hN3⟩ : ∃ N : Nat, 1 + n % 3 = (N : Int) ∧ 1 ≤ N ∧ N ≤ 3 := ⟨(1 + n % 3).toNat, by omega, by omega, by omega⟩
  have hA : Below w.heap.size w (w.alloc (.cells #[vF, .slice pE l.length cE, vX, .int .i64 lo, .int .i64 hi, .int .u8 n] 28)) := (Below.refl _ _).alloc (Nat.le_refl _) _
  have hbx : Blk (w.alloc (.cells #[vF, .slice pE l.length cE, vX, .int .i64 lo, .int .i64 hi, .int .u8 n] 28)) w.heap.size (.cells #[vF, .slice pE l.length cE, vX, .int .i64 lo, .int .i64 hi, .int .u8 n] 28) := World.alloc_heap_new w _
  have HE := Lib.hid (grows_nxc _ _ _ _ hE.1 hA)
  have HBX := Lib.hid hbx
  have HA := Lib.hid hA
  have KD := Lib.hid (fun w => dim_ok vF (.slice pE l.length cE) vX lo hi n w h0 h1)
  rw [hN] at KD
  clear hE hX ht hA hbx hN h0 h1
  go_enter Try.func3, Try.ntmps3
  go_wp2_with (fail)
  refine (sanity10 _).mono ?_
  rintro e w1 ⟨rfl, hB1⟩
  have hbx := HBX.out.grow hB1
  have i0 := heapN_cellj hbx (k := 0) (u := vF) rfl
  have i1 := heapN_cellj hbx (k := 1) (u := .slice pE l.length cE) rfl
  have i2 := heapN_cellj hbx (k := 2) (u := vX) rfl
  have i3 := heapN_cellj hbx (k := 3) (u := .int .i64 lo) rfl
  have i4 := heapN_cellj hbx (k := 4) (u := .int .i64 hi) rfl
  have i5 := heapN_cellj hbx (k := 5) (u := .int .u8 n) rfl
  have HE1 := Lib.hid (grows_nxc _ _ _ _ HE.out hB1)
  have HB1 := Lib.hid (below_then HA.out hB1)
  have HBX1 := Lib.hid hbx
  clear hbx hB1 HE HA HBX
  go_wp2_with (fail)
  refine (KD.out _).mono ?_
  rintro e w2 ⟨rfl, hB2⟩
  have hbx := HBX1.out.grow hB2
  have j1 := heapN_cellj hbx (k := 1) (u := .slice pE l.length cE) rfl
  have HE2 := Lib.hid (grows_nxc _ _ _ _ HE1.out hB2)
  have HB2 := Lib.hid (below_then HB1.out hB2)
  clear hbx hB2 HE1 HB1 HBX1 i0 i1 i2 i3 i4 i5 KD
  go_wp2_with (fail)
  refine (Made7w_ok (N : Int) ⟨by omega, by omega⟩ 20 (by omega) (.slice pE l.length cE) l w2 HE2.out).mono ?_
  rintro e w3 ⟨v, T, rfl, hown, hEV, hlen, hB3⟩
  have hnx := nxc_own hown (by unfold maxLen; omega)
  obtain ⟨pv, cv, rfl⟩ := own_slice hown
  have HT := Lib.hid hnx
  have HB3 := Lib.hid (below_then HB2.out hB3)
  have HEV := Lib.hid hEV
  have HLN := Lib.hid hlen
  clear hown hnx hEV hlen hB3 HE2 HB2 j1
  go_wp2_with (fail)
  go_loopw [6] (fun i wr => ∃ k : Nat, i = .int .i64 k ∧ k ≤ N + 1 ∧ Hid (Below w3.heap.size w3 wr)) (fun i _ => N + 1 - (intOf i).toNat)
  case atStart => exact ⟨0, rfl, by omega, Lib.hid (Below.refl _ _)⟩
  case round =>
    obtain ⟨k, rfl, hk, HB⟩ := hrel
    by_cases hlt : k ≤ N
    · have i3 : (k : Int) ≤ N := by omega
      have hs := HB.out.size
      have hA4 : Below wr.heap.size wr (wr.alloc (.cells #[.int .i64 2, .int .i64 (k : Int), .int .i64 0, .int .i64 0] 33)) := (Below.refl _ _).alloc (Nat.le_refl _) _
      have hlf := NdC.new wr ⟨2, (k : Int), 0, 0⟩
      have hb4 := HB.out.trans (hA4.mono HB.out.size)
      have HNX := Lib.hid (grows_nxc _ _ _ _ HT.out hb4)
      have HB4 := Lib.hid hb4
      have HLF0 := Lib.hid hlf
      dsimp only at HLF0
      have hsm : (pre T).length ≤ 200 := by have := HLN.out; omega
      clear hA4 hlf hb4
      by_cases hkn : k = N
      · subst hkn
        have e1 : ¬ ((k : Int) ≤ (k : Int) - 1) := by omega
        have e2 : (k : Int) - 1 ≤ k := by omega
        have KF := Lib.hid (diff_ok (k : Int) (by omega) ((k : Int) - 1) (by unfold W64; omega) _ T (wr.alloc (.cells #[.int .i64 2, .int .i64 (k : Int), .int .i64 0, .int .i64 0] 33)) HNX.out HEV.out hsm)
        go_wp2_with (fail)
        refine KF.out.mono ?_
        rintro e w5 ⟨v5, rfl, hr5, hB5⟩
        obtain ⟨p5, c5, rfl⟩ := own_slice hr5
        have hl5 := HLF0.out.grow hB5
        have g0 := hl5.c0
        have g1 := hl5.c1
        have g2 := hl5.c2
        have g3 := hl5.c3
        have z0 := hl5.frozen 0
        have z1 := hl5.frozen 1
        have z2 := hl5.frozen 2
        have z3 := hl5.frozen 3
        dsimp only at g0 g1 g2 g3
        have hst := cellsT_setN (o := 3) (u := .int .i64 0) (cellsT_setN (o := 2) (u := .int .i64 0) (cellsT_setN (o := 1) (u := .int .i64 0) (cellsT_setN (o := 0) (u := .int .i64 3) hl5)))
        have hb5 := HB4.out.trans (hB5.mono HB4.out.size)
        have hb6 := (((hb5.setCell (p := ⟨wr.heap.size, 0, none⟩) (by dsimp only; omega) (.int .i64 3)).setCell (p := ⟨wr.heap.size, 1, none⟩) (by dsimp only; omega) (.int .i64 0)).setCell (p := ⟨wr.heap.size, 2, none⟩) (by dsimp only; omega) (.int .i64 0)).setCell (p := ⟨wr.heap.size, 3, none⟩) (by dsimp only; omega) (.int .i64 0)
        obtain ⟨w6, hw6⟩ : ∃ W, (((w5.setCell ⟨wr.heap.size, 0, none⟩ (.int .i64 3)).setCell ⟨wr.heap.size, 1, none⟩ (.int .i64 0)).setCell ⟨wr.heap.size, 2, none⟩ (.int .i64 0)).setCell ⟨wr.heap.size, 3, none⟩ (.int .i64 0) = W := ⟨_, rfl⟩
        rw [hw6] at hst hb6
        have HW6 := Lib.hid hw6
        have HL6 := Lib.hid (show NdC w6 wr.heap.size ⟨3, 0, 0, 0⟩ from hst)
        have HB6 := Lib.hid hb6
        have KT := Lib.hid (tder_ok (k : Int) (by omega) _ T w6 (grows_nxc _ _ _ _ HT.out hb6) HEV.out hsm)
        clear hr5 hl5 hst hb5 hb6 hw6 KF hB5 HLF0 HNX HB4
        go_wp2_with (fail)
        rw [HW6.out]
        refine KT.out.mono ?_
        rintro e w7 ⟨v7, rfl, hr7, hB7⟩
        obtain ⟨p8, c8, hv8, hn8⟩ := nsq_own hr7 (by have := dD_len2 ⟨3, 0, 0, 0⟩ T hsm; unfold maxLen; omega)
        subst hv8
        have HD8 := Lib.hid hn8
        have HLF := Lib.hid (HL6.out.grow hB7)
        have HBW := Lib.hid (HB6.out.trans (hB7.mono HB6.out.size))
        clear hr7 hn8 hB7 KT HL6 HB6 g0 g1 g2 g3 z0 z1 z2 z3 HW6
        have f0 := HLF.out.c0
        have f1 := HLF.out.c1
        have f2 := HLF.out.c2
        have f3 := HLF.out.c3
        dsimp only at f0 f1 f2 f3
        have KO := Lib.hid (occurs_ok (.slice pv (pre T).length cv) (pre T) ⟨3, 0, 0, 0⟩ w7 (grows_nxc _ _ _ _ HT.out HBW.out).1)
        dsimp only at KO
        have hdl : (pre (dD ⟨3, 0, 0, 0⟩ T)).length ≤ 100000 := by have h1 := dD_len2 ⟨3, 0, 0, 0⟩ T (by have := HLN.out; omega); exact h1
        have HDL := Lib.hid hdl
        have hz : ⟨3, 0, 0, 0⟩ ∉ pre T → dD ⟨3, 0, 0, 0⟩ T = pt 0 := fun h => dD_zero ⟨3, 0, 0, 0⟩ arI_3 HEV.out h
        have HZ := Lib.hid hz
        have hlf : ∀ z ∈ pre (dD ⟨3, 0, 0, 0⟩ T), (z.op = 2 ∨ z.op = 3) → z ∈ pre T := lf_dD ⟨3, 0, 0, 0⟩ HEV.out (fun z hz _ => hz)
        have hnw : ∀ z ∈ pre (dD ⟨3, 0, 0, 0⟩ T), NW z := fun z hz => nw_vn (N := (k : Int)) (by omega) (ev_mem (dD_ev ⟨3, 0, 0, 0⟩ HEV.out) z hz)
        have HLL := Lib.hid hlf
        have HNW := Lib.hid hnw
        have hreach : ∃ DD, dD ⟨3, 0, 0, 0⟩ T = DD := ⟨_, rfl⟩
        clear hz hlf hnw hdl
        go_wp2_with (fail)
        refine KO.out.mono ?_
        rintro e w8 ⟨rfl, hB8⟩
        have HD9 := Lib.hid (grows_nxc _ _ _ _ HD8.out hB8)
        have HB9 := Lib.hid (HBW.out.trans (hB8.mono HBW.out.size))
        clear hB8 KO HLF HBW HD8 f0 f1 f2 f3
        by_cases hoc : ⟨3, 0, 0, 0⟩ ∈ pre T
        · rw [decide_eq_true hoc]
          clear hoc HZ
          go_wp2_with (fail)
          obtain ⟨wo, hwo⟩ : ∃ wo, wo = wr := ⟨_, rfl⟩
          subst hwo
          go_loopw [9] (fun i wr => ∃ j : Nat, i = .int .i64 j ∧ j ≤ (pre (dD ⟨3, 0, 0, 0⟩ T)).length ∧ Hid (Below w8.heap.size w8 wr)) (fun i _ => (pre (dD ⟨3, 0, 0, 0⟩ T)).length - (intOf i).toNat)
          case atStart => exact ⟨0, rfl, Nat.zero_le _, Lib.hid (Below.refl _ _)⟩
          case round =>
            obtain ⟨j, rfl, hj, HQ⟩ := hrel
            by_cases hlj : j < (pre (dD ⟨3, 0, 0, 0⟩ T)).length
            · have i5 : (j : Int) < (pre (dD ⟨3, 0, 0, 0⟩ T)).length := by omega
              have hdl2 := HDL.out
              obtain ⟨b, o, op, m, dlo, dhi, rfl, hx, hb, c0, c1, c2, c3⟩ := nd_get HD9.out.1 hlj HQ.out
              have hmem := List.mem_of_getElem? hx
              have hw := HNW.out _ hmem
              have HLF2 := Lib.hid (HLL.out _ hmem)
              have hbt := HB9.out.trans (HQ.out.mono HB9.out.size)
              have KO := Lib.hid (occurs_ok (.slice pv (pre T).length cv) (pre T) ⟨op, m, dlo, dhi⟩ wr (grows_nxc _ _ _ _ HT.out hbt).1)
              dsimp only at KO
              have HQT := Lib.hid hbt
              clear hx hb hmem hw hbt
              by_cases h2 : op = 2
              · subst h2
                have hin := HLF2.out (.inl rfl)
                rw [decide_eq_true hin] at KO
                clear hin
                go_wp2_with (fail)
                refine KO.out.mono ?_
                rintro e w11 ⟨rfl, hB11⟩
                have HQ2 := Lib.hid (below_then HQ.out hB11)
                clear hB11 KO
                go_wp2_with (fail)
                go_roundw
                case rel => exact ⟨j + 1, by go_num, by omega, HQ2⟩
                case measure => (simp [intOf]) <;> omega
              · have q2 : (op == 2) = false := by simpa using h2
                by_cases h3 : op = 3
                · subst h3
                  have hin := HLF2.out (.inr rfl)
                  rw [decide_eq_true hin] at KO
                  clear hin h2
                  go_wp2_with (fail)
                  refine KO.out.mono ?_
                  rintro e w11 ⟨rfl, hB11⟩
                  have HQ2 := Lib.hid (below_then HQ.out hB11)
                  clear hB11 KO
                  go_wp2_with (fail)
                  go_roundw
                  case rel => exact ⟨j + 1, by go_num, by omega, HQ2⟩
                  case measure => (simp [intOf]) <;> omega
                · have q3 : (op == 3) = false := by simpa using h3
                  clear h2 h3 KO
                  go_wp2_with (fail)
                  go_roundw
                  case rel => exact ⟨j + 1, by go_num, by omega, HQ⟩
                  case measure => (simp [intOf]) <;> omega
            · have i5 : ¬ (j : Int) < (pre (dD ⟨3, 0, 0, 0⟩ T)).length := by omega
              go_wp2_with (fail)
              go_roundw
              case rel => exact ⟨k + 1, by go_num, by omega, Lib.hid (HB9.out.trans (HQ.out.mono HB9.out.size))⟩
              case measure => (simp [intOf]) <;> omega
        · rw [decide_eq_false hoc]
          have hz := HZ.out hoc
          have KI := Lib.hid (is0_ok (.slice p8 (pre (dD ⟨3, 0, 0, 0⟩ T)).length c8) w8 (by have h := HD9.out; rw [hz] at h ⊢; exact h))
          clear hoc HZ hz
          go_wp2_with (fail)
          refine KI.out.mono ?_
          rintro e w9 ⟨rfl, hBx⟩
          have HD9 := Lib.hid (grows_nxc _ _ _ _ HD9.out hBx)
          have HB9 := Lib.hid (HB9.out.trans (hBx.mono HB9.out.size))
          clear hBx KI
          go_wp2_with (fail)
          obtain ⟨wo, hwo⟩ : ∃ wo, wo = wr := ⟨_, rfl⟩
          subst hwo
          go_loopw [9] (fun i wr => ∃ j : Nat, i = .int .i64 j ∧ j ≤ (pre (dD ⟨3, 0, 0, 0⟩ T)).length ∧ Hid (Below w9.heap.size w9 wr)) (fun i _ => (pre (dD ⟨3, 0, 0, 0⟩ T)).length - (intOf i).toNat)
          case atStart => exact ⟨0, rfl, Nat.zero_le _, Lib.hid (Below.refl _ _)⟩
          case round =>
            obtain ⟨j, rfl, hj, HQ⟩ := hrel
            by_cases hlj : j < (pre (dD ⟨3, 0, 0, 0⟩ T)).length
            · have i5 : (j : Int) < (pre (dD ⟨3, 0, 0, 0⟩ T)).length := by omega
              have hdl2 := HDL.out
              obtain ⟨b, o, op, m, dlo, dhi, rfl, hx, hb, c0, c1, c2, c3⟩ := nd_get HD9.out.1 hlj HQ.out
              have hmem := List.mem_of_getElem? hx
              have hw := HNW.out _ hmem
              have HLF2 := Lib.hid (HLL.out _ hmem)
              have hbt := HB9.out.trans (HQ.out.mono HB9.out.size)
              have KO := Lib.hid (occurs_ok (.slice pv (pre T).length cv) (pre T) ⟨op, m, dlo, dhi⟩ wr (grows_nxc _ _ _ _ HT.out hbt).1)
              dsimp only at KO
              have HQT := Lib.hid hbt
              clear hx hb hmem hw hbt
              by_cases h2 : op = 2
              · subst h2
                have hin := HLF2.out (.inl rfl)
                rw [decide_eq_true hin] at KO
                clear hin
                go_wp2_with (fail)
                refine KO.out.mono ?_
                rintro e w11 ⟨rfl, hB11⟩
                have HQ2 := Lib.hid (below_then HQ.out hB11)
                clear hB11 KO
                go_wp2_with (fail)
                go_roundw
                case rel => exact ⟨j + 1, by go_num, by omega, HQ2⟩
                case measure => (simp [intOf]) <;> omega
              · have q2 : (op == 2) = false := by simpa using h2
                by_cases h3 : op = 3
                · subst h3
                  have hin := HLF2.out (.inr rfl)
                  rw [decide_eq_true hin] at KO
                  clear hin h2
                  go_wp2_with (fail)
                  refine KO.out.mono ?_
                  rintro e w11 ⟨rfl, hB11⟩
                  have HQ2 := Lib.hid (below_then HQ.out hB11)
                  clear hB11 KO
                  go_wp2_with (fail)
                  go_roundw
                  case rel => exact ⟨j + 1, by go_num, by omega, HQ2⟩
                  case measure => (simp [intOf]) <;> omega
                · have q3 : (op == 3) = false := by simpa using h3
                  clear h2 h3 KO
                  go_wp2_with (fail)
                  go_roundw
                  case rel => exact ⟨j + 1, by go_num, by omega, HQ⟩
                  case measure => (simp [intOf]) <;> omega
            · have i5 : ¬ (j : Int) < (pre (dD ⟨3, 0, 0, 0⟩ T)).length := by omega
              go_wp2_with (fail)
              go_roundw
              case rel => exact ⟨k + 1, by go_num, by omega, Lib.hid (HB9.out.trans (HQ.out.mono HB9.out.size))⟩
              case measure => (simp [intOf]) <;> omega
      · have e1 : (k : Int) ≤ (N : Int) - 1 := by omega
        have e3 : ((k : Int) == (N : Int)) = false := by
          have : ¬ (k : Int) = N := by omega
          simpa using this
        have KF := Lib.hid (diff_ok (N : Int) (by omega) (k : Int) (by unfold W64; omega) _ T (wr.alloc (.cells #[.int .i64 2, .int .i64 (k : Int), .int .i64 0, .int .i64 0] 33)) HNX.out HEV.out hsm)
        go_wp2_with (fail)
        refine KF.out.mono ?_
        rintro e w7 ⟨v7, rfl, hr7, hB7⟩
        obtain ⟨p8, c8, hv8, hn8⟩ := nsq_own hr7 (by have := dD_len2 ⟨2, (k : Int), 0, 0⟩ T hsm; unfold maxLen; omega)
        subst hv8
        have HD8 := Lib.hid hn8
        have HLF := Lib.hid (HLF0.out.grow hB7)
        have HBW := Lib.hid (HB4.out.trans (hB7.mono HB4.out.size))
        clear hr7 hn8 hB7 KF HLF0 HNX HB4
        have f0 := HLF.out.c0
        have f1 := HLF.out.c1
        have f2 := HLF.out.c2
        have f3 := HLF.out.c3
        dsimp only at f0 f1 f2 f3
        have KO := Lib.hid (occurs_ok (.slice pv (pre T).length cv) (pre T) ⟨2, (k : Int), 0, 0⟩ w7 (grows_nxc _ _ _ _ HT.out HBW.out).1)
        dsimp only at KO
        have hdl : (pre (dD ⟨2, (k : Int), 0, 0⟩ T)).length ≤ 100000 := by have h1 := dD_len2 ⟨2, (k : Int), 0, 0⟩ T (by have := HLN.out; omega); exact h1
        have HDL := Lib.hid hdl
        have hz : ⟨2, (k : Int), 0, 0⟩ ∉ pre T → dD ⟨2, (k : Int), 0, 0⟩ T = pt 0 := fun h => dD_zero ⟨2, (k : Int), 0, 0⟩ arI_2 HEV.out h
        have HZ := Lib.hid hz
        have hlf : ∀ z ∈ pre (dD ⟨2, (k : Int), 0, 0⟩ T), (z.op = 2 ∨ z.op = 3) → z ∈ pre T := lf_dD ⟨2, (k : Int), 0, 0⟩ HEV.out (fun z hz _ => hz)
        have hnw : ∀ z ∈ pre (dD ⟨2, (k : Int), 0, 0⟩ T), NW z := fun z hz => nw_vn (N := (N : Int)) (by omega) (ev_mem (dD_ev ⟨2, (k : Int), 0, 0⟩ HEV.out) z hz)
        have HLL := Lib.hid hlf
        have HNW := Lib.hid hnw
        have hreach : ∃ DD, dD ⟨2, (k : Int), 0, 0⟩ T = DD := ⟨_, rfl⟩
        clear hz hlf hnw hdl
        go_wp2_with (fail)
        refine KO.out.mono ?_
        rintro e w8 ⟨rfl, hB8⟩
        have HD9 := Lib.hid (grows_nxc _ _ _ _ HD8.out hB8)
        have HB9 := Lib.hid (HBW.out.trans (hB8.mono HBW.out.size))
        clear hB8 KO HLF HBW HD8 f0 f1 f2 f3
        by_cases hoc : ⟨2, (k : Int), 0, 0⟩ ∈ pre T
        · rw [decide_eq_true hoc]
          clear hoc HZ
          go_wp2_with (fail)
          obtain ⟨wo, hwo⟩ : ∃ wo, wo = wr := ⟨_, rfl⟩
          subst hwo
          go_loopw [9] (fun i wr => ∃ j : Nat, i = .int .i64 j ∧ j ≤ (pre (dD ⟨2, (k : Int), 0, 0⟩ T)).length ∧ Hid (Below w8.heap.size w8 wr)) (fun i _ => (pre (dD ⟨2, (k : Int), 0, 0⟩ T)).length - (intOf i).toNat)
          case atStart => exact ⟨0, rfl, Nat.zero_le _, Lib.hid (Below.refl _ _)⟩
          case round =>
            obtain ⟨j, rfl, hj, HQ⟩ := hrel
            by_cases hlj : j < (pre (dD ⟨2, (k : Int), 0, 0⟩ T)).length
            · have i5 : (j : Int) < (pre (dD ⟨2, (k : Int), 0, 0⟩ T)).length := by omega
              have hdl2 := HDL.out
              obtain ⟨b, o, op, m, dlo, dhi, rfl, hx, hb, c0, c1, c2, c3⟩ := nd_get HD9.out.1 hlj HQ.out
              have hmem := List.mem_of_getElem? hx
              have hw := HNW.out _ hmem
              have HLF2 := Lib.hid (HLL.out _ hmem)
              have hbt := HB9.out.trans (HQ.out.mono HB9.out.size)
              have KO := Lib.hid (occurs_ok (.slice pv (pre T).length cv) (pre T) ⟨op, m, dlo, dhi⟩ wr (grows_nxc _ _ _ _ HT.out hbt).1)
              dsimp only at KO
              have HQT := Lib.hid hbt
              clear hx hb hmem hw hbt
              by_cases h2 : op = 2
              · subst h2
                have hin := HLF2.out (.inl rfl)
                rw [decide_eq_true hin] at KO
                clear hin
                go_wp2_with (fail)
                refine KO.out.mono ?_
                rintro e w11 ⟨rfl, hB11⟩
                have HQ2 := Lib.hid (below_then HQ.out hB11)
                clear hB11 KO
                go_wp2_with (fail)
                go_roundw
                case rel => exact ⟨j + 1, by go_num, by omega, HQ2⟩
                case measure => (simp [intOf]) <;> omega
              · have q2 : (op == 2) = false := by simpa using h2
                by_cases h3 : op = 3
                · subst h3
                  have hin := HLF2.out (.inr rfl)
                  rw [decide_eq_true hin] at KO
                  clear hin h2
                  go_wp2_with (fail)
                  refine KO.out.mono ?_
                  rintro e w11 ⟨rfl, hB11⟩
                  have HQ2 := Lib.hid (below_then HQ.out hB11)
                  clear hB11 KO
                  go_wp2_with (fail)
                  go_roundw
                  case rel => exact ⟨j + 1, by go_num, by omega, HQ2⟩
                  case measure => (simp [intOf]) <;> omega
                · have q3 : (op == 3) = false := by simpa using h3
                  clear h2 h3 KO
                  go_wp2_with (fail)
                  go_roundw
                  case rel => exact ⟨j + 1, by go_num, by omega, HQ⟩
                  case measure => (simp [intOf]) <;> omega
            · have i5 : ¬ (j : Int) < (pre (dD ⟨2, (k : Int), 0, 0⟩ T)).length := by omega
              go_wp2_with (fail)
              go_roundw
              case rel => exact ⟨k + 1, by go_num, by omega, Lib.hid (HB9.out.trans (HQ.out.mono HB9.out.size))⟩
              case measure => (simp [intOf]) <;> omega
        · rw [decide_eq_false hoc]
          have hz := HZ.out hoc
          have KI := Lib.hid (is0_ok (.slice p8 (pre (dD ⟨2, (k : Int), 0, 0⟩ T)).length c8) w8 (by have h := HD9.out; rw [hz] at h ⊢; exact h))
          clear hoc HZ hz
          go_wp2_with (fail)
          refine KI.out.mono ?_
          rintro e w9 ⟨rfl, hBx⟩
          have HD9 := Lib.hid (grows_nxc _ _ _ _ HD9.out hBx)
          have HB9 := Lib.hid (HB9.out.trans (hBx.mono HB9.out.size))
          clear hBx KI
          go_wp2_with (fail)
          obtain ⟨wo, hwo⟩ : ∃ wo, wo = wr := ⟨_, rfl⟩
          subst hwo
          go_loopw [9] (fun i wr => ∃ j : Nat, i = .int .i64 j ∧ j ≤ (pre (dD ⟨2, (k : Int), 0, 0⟩ T)).length ∧ Hid (Below w9.heap.size w9 wr)) (fun i _ => (pre (dD ⟨2, (k : Int), 0, 0⟩ T)).length - (intOf i).toNat)
          case atStart => exact ⟨0, rfl, Nat.zero_le _, Lib.hid (Below.refl _ _)⟩
          case round =>
            obtain ⟨j, rfl, hj, HQ⟩ := hrel
            by_cases hlj : j < (pre (dD ⟨2, (k : Int), 0, 0⟩ T)).length
            · have i5 : (j : Int) < (pre (dD ⟨2, (k : Int), 0, 0⟩ T)).length := by omega
              have hdl2 := HDL.out
              obtain ⟨b, o, op, m, dlo, dhi, rfl, hx, hb, c0, c1, c2, c3⟩ := nd_get HD9.out.1 hlj HQ.out
              have hmem := List.mem_of_getElem? hx
              have hw := HNW.out _ hmem
              have HLF2 := Lib.hid (HLL.out _ hmem)
              have hbt := HB9.out.trans (HQ.out.mono HB9.out.size)
              have KO := Lib.hid (occurs_ok (.slice pv (pre T).length cv) (pre T) ⟨op, m, dlo, dhi⟩ wr (grows_nxc _ _ _ _ HT.out hbt).1)
              dsimp only at KO
              have HQT := Lib.hid hbt
              clear hx hb hmem hw hbt
              by_cases h2 : op = 2
              · subst h2
                have hin := HLF2.out (.inl rfl)
                rw [decide_eq_true hin] at KO
                clear hin
                go_wp2_with (fail)
                refine KO.out.mono ?_
                rintro e w11 ⟨rfl, hB11⟩
                have HQ2 := Lib.hid (below_then HQ.out hB11)
                clear hB11 KO
                go_wp2_with (fail)
                go_roundw
                case rel => exact ⟨j + 1, by go_num, by omega, HQ2⟩
                case measure => (simp [intOf]) <;> omega
              · have q2 : (op == 2) = false := by simpa using h2
                by_cases h3 : op = 3
                · subst h3
                  have hin := HLF2.out (.inr rfl)
                  rw [decide_eq_true hin] at KO
                  clear hin h2
                  go_wp2_with (fail)
                  refine KO.out.mono ?_
                  rintro e w11 ⟨rfl, hB11⟩
                  have HQ2 := Lib.hid (below_then HQ.out hB11)
                  clear hB11 KO
                  go_wp2_with (fail)
                  go_roundw
                  case rel => exact ⟨j + 1, by go_num, by omega, HQ2⟩
                  case measure => (simp [intOf]) <;> omega
                · have q3 : (op == 3) = false := by simpa using h3
                  clear h2 h3 KO
                  go_wp2_with (fail)
                  go_roundw
                  case rel => exact ⟨j + 1, by go_num, by omega, HQ⟩
                  case measure => (simp [intOf]) <;> omega
            · have i5 : ¬ (j : Int) < (pre (dD ⟨2, (k : Int), 0, 0⟩ T)).length := by omega
              go_wp2_with (fail)
              go_roundw
              case rel => exact ⟨k + 1, by go_num, by omega, Lib.hid (HB9.out.trans (HQ.out.mono HB9.out.size))⟩
              case measure => (simp [intOf]) <;> omega
    · have i3 : ¬ (k : Int) ≤ N := by omega
      go_wp2_with (fail)
      go_ret
      exact ⟨rfl, below_then HB3.out HB.out⟩
end Go.Proofs.Yteibdnjjfjplpaa
