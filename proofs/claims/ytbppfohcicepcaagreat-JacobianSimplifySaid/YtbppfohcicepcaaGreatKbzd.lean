/-
  Mb
-/
import Derived.Test.YtbppfohcicepcaaGreatKbp
import Derived.Test.YtbppfohcicepcaaGreatKbw
import Derived.Test.YtbppfohcicepcaaGreatKbzc
namespace Go.Proofs.YtbppfohcicepcaaGreat
open Go.ChangeShapes Go.WideShapes Go.ChangeAt Go.RowKit
set_option linter.unusedVariables false
set_option linter.unusedSimpArgs false
set_option maxRecDepth 100000
attribute [local go_sem] and255
attribute [local irreducible] Calls
theorem and1 (n : Int) : bits .and .i64 n 1 = n % 2 := by
  have h127 : (BitVec.ofInt 64 1).toNat = 2 ^ 1 - 1 := by decide
  have key : (BitVec.ofInt 64 n &&& BitVec.ofInt 64 1).toNat = (n % ((2 ^ 64 : Nat) : Int)).toNat % 2 ^ 1 := by
    rw [BitVec.toNat_and, BitVec.toNat_ofInt, h127, Nat.and_two_pow_sub_one_eq_mod]
  show IntKind.i64.wrap ((BitVec.ofInt 64 n &&& BitVec.ofInt 64 1).toNat : Nat) = n % 2
  rw [key, IntKind.wrap_i64]
  omega
attribute [local go_sem] and1
theorem rx_drop1 {w : World} {b o c : Nat} {x : Nd} {l : List Nd} (h : Nx w (.slice (some ⟨b, o, none⟩) (l.length + 1) (c + 1)) (x :: l)) : Nx w (.slice (some ⟨b, o + 4, none⟩) l.length c) l := by
  obtain ⟨h1, p', c', e, h2⟩ := h
  cases e
  refine ⟨by simp at h1; omega, _, c, rfl, fun i y hy => ?_⟩
  obtain ⟨b', o', e, h3, h4⟩ := h2 (i + 1) y hy
  simp only [Option.some.injEq, Addr.mk.injEq, and_true] at e
  obtain ⟨rfl, rfl⟩ := e
  exact ⟨b, o + 4, rfl, h3, fun j u hu => by rw [← h4 j u hu]; congr 2; omega⟩
/-- A builder: its remaining nodes lie in what was there before it. -/
structure Bu (w0 : World) (bb : Nat) (n : Int) (R : List Nd) (W : World) : Prop where
  lo : w0.heap.size ≤ bb
  bel : Below w0.heap.size w0 W
  blk : ∃ p c, W.heap[bb]? = some (.cells #[.slice p R.length c, .int .i64 n] 66 (0, 0)) ∧ Nx w0 (.slice p R.length c) R ∧ R.length ≤ c
/-- What build gives. -/
structure BuR (w0 : World) (bb : Nat) (n : Int) (most d : Nat) (W : World) (v : Value) (W' : World) : Prop where
  ex : ∃ t R', W'.ownsRow W.heap.size 63 4 v (pre t).length (cr encN (pre t)) ∧ EV n t ∧ (pre t).length < 2 ^ d ∧ Bu w0 bb n R' W' ∧ R'.length ≤ most
  own : W.grownBy W' (some bb)
theorem gb_trans {A B C : World} {row : Option Nat} (h : A.grownBy B row) (k : B.grownBy C row) : A.grownBy C row :=
  ⟨k.os.trans h.os, k.tape.trans h.tape, k.output.trans h.output, Nat.le_trans h.size k.size, fun q hq hne => (k.block q (Nat.lt_of_lt_of_le hq h.size) hne).trans (h.block q hq hne)⟩
theorem grown_of7 {W W' : World} {row : Option Nat} (h : Below W.heap.size W W') : W.grownBy W' row := ⟨h.os, h.tape, h.output, h.size, fun k hk _ => h.block k hk⟩
theorem Bu.grow {w0 W W' : World} {bb : Nat} {n : Int} {R : List Nd} (h : Bu w0 bb n R W) (hB : Below W.heap.size W W') : Bu w0 bb n R W' := by
  obtain ⟨p, c, h1, h2, h3⟩ := h.blk
  exact ⟨h.lo, h.bel.trans (hB.mono h.bel.size), p, c, (hB.block _ (Array.getElem?_eq_some_iff.1 h1).1).trans h1, h2, h3⟩
theorem own_base7 {W : World} {A B n : Nat} {v : Value} {xs : List Value} (h : W.ownsRow B 63 4 v n xs) (hb : A ≤ B) : W.ownsRow A 63 4 v n xs :=
  ⟨h.1, h.2.imp id fun ⟨g, c, cur, e1, hB, r⟩ => ⟨g, c, cur, e1, Nat.le_trans hb hB, r⟩⟩
theorem pow_pos7 (d : Nat) : 1 ≤ 2 ^ d := Nat.one_le_two_pow
set_option maxHeartbeats 64000000 in
theorem build_ok (w0 : World) (bb : Nat) (n : Int) (hn : 1 ≤ n ∧ n ≤ 6) (most : Nat) (hm : most ≤ 1000) : ∀ (d : Nat), 1 ≤ d → d ≤ 5 → ∀ (R : List Nd) (w : World), R.length ≤ most → Bu w0 bb n R w →
    Calls Tryz.prog 40 #[.pointer (some ⟨bb, 0, none⟩), .int .i64 d] w fun e w' => ∃ v, e = .returned v ∧ BuR w0 bb n most d w v w' := by
  intro d
  induction d with
  | zero => intro h; omega
  | succ d IH =>
    intro _ hd R w hR hB
    obtain ⟨p, c, hblk, hnx, hcap⟩ := hB.blk
    have y0 := heapN_cellj hblk (k := 0) rfl
    have y1 := heapN_cellj hblk (k := 1) rfl
    have HBU := Lib.hid hB
    have H2 := Lib.hid (show 1 < 2 ^ (d + 1) by simp)
    rcases R with _ | ⟨x, R⟩
    · clear hnx hcap IH
      go_enter Tryz.func40, Tryz.ntmps40
      go_wp2_with (fail)
      refine (pt_one _).mono ?_
      rintro e w1 ⟨rfl, hB1⟩
      go_wp2_with (fail)
      refine (const7_ok 65536 65536 _).mono ?_
      rintro e w2 ⟨v, rfl, hO, hB2⟩
      have hB3 := below_then hB1 hB2
      have HO := Lib.hid hO
      have HB3 := Lib.hid hB3
      have HS := Lib.hid hB1.size
      clear hO hB1 hB2 hB3
      go_wp2_with (fail)
      go_ret
      refine ⟨_, rfl, ⟨⟨.e0 ⟨1, 0, 65536, 65536⟩, [], ?_, ⟨rfl, by unfold vnB; simp; exact vi_1⟩, H2.out, ⟨HBU.out.lo, HBU.out.bel.trans (HB3.out.mono HBU.out.bel.size), ?_⟩, by simp⟩, ⟨HB3.out.os, HB3.out.tape, HB3.out.output, HB3.out.size, fun k hk _ => HB3.out.block k hk⟩⟩⟩
      · have h := HO.out
        exact ⟨h.1, h.2.imp id fun ⟨g, c, cur, e1, hb, r⟩ => ⟨g, c, cur, e1, Nat.le_trans HS.out hb, r⟩⟩
      · obtain ⟨p, c, h1, h2, h3⟩ := HBU.out.blk
        exact ⟨p, c, (HB3.out.block _ (Array.getElem?_eq_some_iff.1 h1).1).trans h1, h2, h3⟩
    · obtain ⟨bx, ox, hpe, hbx, rdx⟩ := nd_rd hnx (i := 0) rfl
      subst hpe
      obtain ⟨x0, x1, x2, x3⟩ := rdx ⟨w, hB.bel⟩
      dsimp only [Nat.zero_mul, Nat.add_zero] at x0 x1 x2 x3
      simp only [Nat.zero_mul, Nat.add_zero] at x0 x1 x2 x3
      obtain ⟨c', rfl⟩ : ∃ c', c = c' + 1 := ⟨c - 1, by simp at hcap; omega⟩
      have HT0 := Lib.hid (rx_drop1 (by simpa using hnx) : Nx w0 (.slice (some ⟨bx, ox + 4, none⟩) R.length c') R)
      have hcap' : R.length ≤ c' := by simp at hcap; omega
      clear hnx rdx
      obtain ⟨o9, ho9, HT⟩ : ∃ o9, (if c' = 0 then ox else ox + 4) = o9 ∧ Hid (Nx w0 (.slice (some ⟨bx, o9, none⟩) R.length c') R) := by
        refine ⟨_, rfl, ?_⟩
        by_cases h : c' = 0
        · have hR0 : R = [] := List.length_eq_zero_iff.1 (by omega)
          subst hR0
          exact Lib.hid (Rx.nil _ _ _)
        · rw [if_neg h]; exact HT0
      have hE : Below w.heap.size w (w.alloc (.cells #[.int .i64 x.op, .int .i64 x.n, .int .i64 x.lo, .int .i64 x.hi] 63)) := allocs_below [.cells #[.int .i64 x.op, .int .i64 x.n, .int .i64 x.lo, .int .i64 x.hi] 63] w
      have hbb := (hE.block _ (Array.getElem?_eq_some_iff.1 hblk).1).trans hblk
      have hbl := (Array.getElem?_eq_some_iff.1 hblk).1
      have u0 := heapN_cellj hbb (k := 0) rfl
      have v0 : (w.alloc (.cells #[.int .i64 x.op, .int .i64 x.n, .int .i64 x.lo, .int .i64 x.hi] 63)).frozen? ⟨bb, 0, none⟩ = false := by simp [World.frozen?, show (w.alloc (.cells #[.int .i64 x.op, .int .i64 x.n, .int .i64 x.lo, .int .i64 x.hi] 63)).heap[bb]? = _ from hbb]
      have hs7 := cellsT_setN (o := 0) (u := .slice (some ⟨bx, o9, none⟩) R.length c') hblk
      have ho7 := oth_at w bb 0 (.slice (some ⟨bx, o9, none⟩) R.length c')
      have hz7 : (w.setCell ⟨bb, 0, none⟩ (.slice (some ⟨bx, o9, none⟩) R.length c')).heap.size = w.heap.size := by simp
      have hE7 : Below (w.setCell ⟨bb, 0, none⟩ (.slice (some ⟨bx, o9, none⟩) R.length c')).heap.size _ ((w.setCell ⟨bb, 0, none⟩ (.slice (some ⟨bx, o9, none⟩) R.length c')).alloc (.cells #[.int .i64 x.op, .int .i64 x.n, .int .i64 x.lo, .int .i64 x.hi] 63)) := allocs_below [.cells #[.int .i64 x.op, .int .i64 x.n, .int .i64 x.lo, .int .i64 x.hi] 63] _
      have hnd := World.alloc_heap_new (w.setCell ⟨bb, 0, none⟩ (.slice (some ⟨bx, o9, none⟩) R.length c')) (.cells #[.int .i64 x.op, .int .i64 x.n, .int .i64 x.lo, .int .i64 x.hi] 63)
      rw [hz7] at hnd
      have hs8 := (hE7.block bb (by rw [hz7]; exact hbl)).trans hs7
      obtain ⟨W8, e8⟩ : ∃ W8, (w.setCell ⟨bb, 0, none⟩ (.slice (some ⟨bx, o9, none⟩) R.length c')).alloc (.cells #[.int .i64 x.op, .int .i64 x.n, .int .i64 x.lo, .int .i64 x.hi] 63) = W8 := ⟨_, rfl⟩
      have hB8 : Below w0.heap.size w0 W8 := by
        rw [← e8]
        exact (ho7.bel hB.bel hB.lo hB.bel.size).trans (hE7.mono (Nat.le_trans hB.bel.size ho7.size))
      have hg8 : w.grownBy W8 (some bb) := by
        rw [← e8]
        exact ⟨hE7.os.trans ho7.os, hE7.tape.trans ho7.tape, hE7.output.trans ho7.output, Nat.le_trans ho7.size hE7.size, fun q hq hne => (hE7.block q (Nat.lt_of_lt_of_le hq ho7.size)).trans (ho7.blk q hq (fun e => hne (by rw [e])))⟩
      rw [e8] at hs8 hnd
      have HND := Lib.hid (show Blk W8 w.heap.size (.cells #[.int .i64 x.op, .int .i64 x.n, .int .i64 x.lo, .int .i64 x.hi] 63) from hnd)
      have HBU8 := Lib.hid (⟨hB.lo, hB8, _, _, hs8, HT.out, hcap'⟩ : Bu w0 bb n R W8)
      have HG8 := Lib.hid hg8
      have z0 := heapN_cellj HND.out (k := 0) rfl
      have z1 := heapN_cellj HND.out (k := 1) rfl
      have z2 := heapN_cellj HND.out (k := 2) rfl
      have z3 := heapN_cellj HND.out (k := 3) rfl
      have b1 := heapN_cellj hs8 (k := 1) (u := .int .i64 n) rfl
      have hRm : R.length ≤ most := by simp at hR; omega
      clear hE hnd hbb hs8 hs7 ho7 hz7 hE7 hB8 hg8 hB hblk HT0
      have hr0 : 0 ≤ (x.op % 256).tmod 10 ∧ (x.op % 256).tmod 10 < 10 := ⟨Int.tmod_nonneg _ (by omega), Int.tmod_lt_of_pos _ (by decide)⟩
      obtain ⟨r, hr⟩ : ∃ r, (x.op % 256).tmod 10 = r := ⟨_, rfl⟩
      rw [hr] at hr0
      obtain ⟨q, hq⟩ : ∃ q, x.n % 256 = q := ⟨_, rfl⟩
      have hq0 : 0 ≤ q ∧ q < 256 := by omega
      have fin : ∀ (v : Value) (t : Ex) (W1 W2 : World) (R' : List Nd), W8.grownBy W1 (some bb) → Bu w0 bb n R' W1 → R'.length ≤ most → Below W1.heap.size W1 W2 → W2.ownsRow W1.heap.size 63 4 v (pre t).length (cr encN (pre t)) → EV n t → (pre t).length < 2 ^ (d + 1) → ∃ v', Ending.returned v = .returned v' ∧ BuR w0 bb n most (d + 1) w v' W2 := fun v t W1 W2 R' g1 g2 g3 g4 g5 g6 g7 =>
        ⟨v, rfl, ⟨t, R', own_base7 g5 (Nat.le_trans HG8.out.size g1.size), g6, g7, g2.grow g4, g3⟩, gb_trans (gb_trans HG8.out g1) (grown_of7 g4)⟩
      have FIN := Lib.hid fin
      have HR := Lib.hid hr
      clear fin
      rcases Nat.eq_zero_or_pos c' with hc0 | hc0
      · rw [if_pos hc0] at ho9
        subst ho9
        subst hc0
        have hR0 : R.length = 0 := by omega
        rw [hR0] at e8
        rcases (show r = 0 ∨ r = 1 ∨ r = 2 ∨ r = 3 ∨ r = 4 ∨ r = 5 ∨ r = 6 ∨ r = 7 ∨ r = 8 ∨ r = 9 by omega) with rfl | rfl | rfl | rfl | rfl | rfl | rfl | rfl | rfl | rfl
        · clear IH
          obtain ⟨s, hs⟩ : ∃ s, x.n % 2 = s := ⟨_, rfl⟩
          have hs0 : s = 0 ∨ s = 1 := by omega
          rcases hs0 with rfl | rfl
          · have hw9 : IntKind.i64.wrap (1 + q) = 1 + q := wrapN _ (by omega) (by omega)
            have hw8 : IntKind.i64.wrap q = q := wrapN _ (by omega) (by omega)
            have hnb := near_bd (x.lo, x.hi) (d := 1) (by omega)
            go_enter Tryz.func40, Tryz.ntmps40
            go_wp2_with (fail)
            refine (r2near x.lo x.hi (1) _ (by omega) (by omega)).mono ?_
            rintro e w1 ⟨rfl, hB1⟩
            have HN := Lib.hid hnb
            clear hnb
            generalize nearI (x.lo, x.hi) (1) = nn at *
            obtain ⟨n0, n1⟩ := nn
            go_wp2_with (fail)
            refine (const7_ok n0 n1 _).mono ?_
            rintro e w2 ⟨v, rfl, hO, hB2⟩
            have HO := Lib.hid hO
            have HB2 := Lib.hid hB2
            have HB1 := Lib.hid hB1
            clear hO hB1 hB2
            go_wp2_with (fail)
            go_ret
            have hnb := HN.out
            try dsimp only at hnb
            exact FIN.out v (.e0 ⟨1, 0, n0, n1⟩) w1 w2 R (grown_of7 HB1.out) (HBU8.out.grow HB1.out) hRm HB2.out HO.out ⟨rfl, by unfold vnB; simp; exact .inr ⟨by unfold Num; omega, by unfold Num; omega, by omega⟩⟩ H2.out
          · have hw9 : IntKind.i64.wrap (1 + q) = 1 + q := wrapN _ (by omega) (by omega)
            have hw8 : IntKind.i64.wrap q = q := wrapN _ (by omega) (by omega)
            have hnb := near_bd (x.lo, x.hi) (d := 1 + q) (by omega)
            go_enter Tryz.func40, Tryz.ntmps40
            go_wp2_with (fail)
            refine (r2near x.lo x.hi (1 + q) _ (by omega) (by omega)).mono ?_
            rintro e w1 ⟨rfl, hB1⟩
            have HN := Lib.hid hnb
            clear hnb
            generalize nearI (x.lo, x.hi) (1 + q) = nn at *
            obtain ⟨n0, n1⟩ := nn
            go_wp2_with (fail)
            refine (const7_ok n0 n1 _).mono ?_
            rintro e w2 ⟨v, rfl, hO, hB2⟩
            have HO := Lib.hid hO
            have HB2 := Lib.hid hB2
            have HB1 := Lib.hid hB1
            clear hO hB1 hB2
            go_wp2_with (fail)
            go_ret
            have hnb := HN.out
            try dsimp only at hnb
            exact FIN.out v (.e0 ⟨1, 0, n0, n1⟩) w1 w2 R (grown_of7 HB1.out) (HBU8.out.grow HB1.out) hRm HB2.out HO.out ⟨rfl, by unfold vnB; simp; exact .inr ⟨by unfold Num; omega, by unfold Num; omega, by omega⟩⟩ H2.out
        · clear IH
          obtain ⟨m, hm9⟩ : ∃ m, q.tmod n = m := ⟨_, rfl⟩
          have hm0 : 0 ≤ m ∧ m < n := by rw [← hm9]; exact ⟨Int.tmod_nonneg _ (by omega), Int.tmod_lt_of_pos _ (by omega)⟩
          have hn0 : ¬ n = 0 := by omega
          go_enter Tryz.func40, Tryz.ntmps40
          go_wp2_with (fail)
          refine (arity7_ok 2 _ (by decide) (by decide)).mono ?_
          rintro e w' ⟨rfl, rfl⟩
          go_wp2_with (fail)
          have hblk8 : ∃ p c, W8.heap[bb]? = some (.cells #[.slice p R.length c, .int .i64 n] 66 (0, 0)) := by obtain ⟨p, c, h1, _⟩ := HBU8.out.blk; exact ⟨p, c, h1⟩
          obtain ⟨p8, c8, hblk8⟩ := hblk8
          have HK8 := Lib.hid (show Blk W8 bb (.cells #[.slice p8 R.length c8, .int .i64 n] 66) from hblk8)
          clear hblk8 z0 z1 z2 z3 b1 e8 u0 v0 y0 y1 x0 x1 x2 x3
          have z0 := fun g : Grown W8 => heapN_cellj (HND.out.grow g.h) (k := 0) rfl
          have z1 := fun g : Grown W8 => heapN_cellj (HND.out.grow g.h) (k := 1) rfl
          have z2 := fun g : Grown W8 => heapN_cellj (HND.out.grow g.h) (k := 2) rfl
          have z3 := fun g : Grown W8 => heapN_cellj (HND.out.grow g.h) (k := 3) rfl
          have b0 := fun g : Grown W8 => heapN_cellj (HK8.out.grow g.h) (k := 0) rfl
          have b1 := fun g : Grown W8 => heapN_cellj (HK8.out.grow g.h) (k := 1) rfl
          refine region_pred (lk [(60, fun z_ _ => z_ = .pointer (some ⟨w.heap.size, 1, none⟩)), (61, fun z_ _ => z_ = .int .i64 (x.n)), (62, fun z_ _ => z_ = .int .i64 q), (63, fun z_ _ => z_ = .pointer (some ⟨bb, 0, none⟩)), (64, fun z_ _ => z_ = .pointer (some ⟨bb, 0, none⟩)), (65, fun z_ _ => z_ = .pointer (some ⟨bb, 1, none⟩)), (66, fun z_ _ => z_ = .int .i64 n), (67, fun z_ _ => z_ = .int .i64 m), (68, fun z_ _ => z_ = .agg #[.int .i64 2, .int .i64 m, .int .i64 0, .int .i64 0]), (69, fun z_ w' => ∃ X_, z_ = .slice (some ⟨X_, 0, none⟩) 1 1 ∧ W8.heap.size ≤ X_ ∧ w'.heap[X_]? = some (.cells #[.int .i64 2, .int .i64 m, .int .i64 0, .int .i64 0] 63 (0, 0))), (4, fun z_ w' => World.ownsRow w' W8.heap.size 63 4 z_ 1 (cr encN [⟨2, m, 0, 0⟩]))]) (by kernel_rfl) (by kernel_rfl) (lk_steady _ ⟨steady_eq _, steady_eq _, steady_eq _, steady_eq _, steady_eq _, steady_eq _, steady_eq _, steady_eq _, steady_eq _, fun u w1 w2 hb ⟨X, e, h1, h2⟩ => ⟨X, e, h1, (hb.block X (Array.getElem?_eq_some_iff.1 h2).1).trans h2⟩, fun u w1 w2 hb h_ => own_keptN h_ hb, trivial⟩) ?_ ?_
          · refine ⟨?_, ?_, ?_, ?_, ?_, ?_, ?_, ?_, ?_, ?_, ?_, trivial⟩
            · refine ob_plain [5] rfl rfl fun aa g h => ?_
              have yy0 := seen_out (v := .pointer (some ⟨w.heap.size, 0, none⟩)) rfl rfl h.1
              have ee0 := getD_of yy0
              exact tupon_value (v := .pointer (some ⟨w.heap.size, 1, none⟩)) (by simp [go_sem, ee0, yy0]) (Below.refl _ _) rfl
            · refine ob_plain [60] rfl rfl fun aa g h => ?_
              obtain ⟨_, yy0, rfl⟩ := seen_in rfl h.1
              have ee0 := getD_of yy0
              exact tupon_value (v := .int .i64 (x.n)) (by simp [go_sem, ee0, yy0, z1 g]) (Below.refl _ _) rfl
            · refine ob_plain [61] rfl rfl fun aa g h => ?_
              obtain ⟨_, yy0, rfl⟩ := seen_in rfl h.1
              have ee0 := getD_of yy0
              exact tupon_value (v := .int .i64 q) (by simp [go_sem, ee0, yy0, hq]) (Below.refl _ _) rfl
            · refine ob_plain [0] rfl rfl fun aa g h => ?_
              have yy0 := seen_out (v := .pointer (some ⟨bb, 0, none⟩)) rfl rfl h.1
              have ee0 := getD_of yy0
              exact tupon_value (v := .pointer (some ⟨bb, 0, none⟩)) (by simp [go_sem, ee0, yy0]) (Below.refl _ _) rfl
            · refine ob_plain [63] rfl rfl fun aa g h => ?_
              obtain ⟨_, yy0, rfl⟩ := seen_in rfl h.1
              have ee0 := getD_of yy0
              exact tupon_value (v := .pointer (some ⟨bb, 0, none⟩)) (by simp [go_sem, ee0, yy0]) (Below.refl _ _) rfl
            · refine ob_plain [64] rfl rfl fun aa g h => ?_
              obtain ⟨_, yy0, rfl⟩ := seen_in rfl h.1
              have ee0 := getD_of yy0
              exact tupon_value (v := .pointer (some ⟨bb, 1, none⟩)) (by simp [go_sem, ee0, yy0]) (Below.refl _ _) rfl
            · refine ob_plain [65] rfl rfl fun aa g h => ?_
              obtain ⟨_, yy0, rfl⟩ := seen_in rfl h.1
              have ee0 := getD_of yy0
              exact tupon_value (v := .int .i64 n) (by simp [go_sem, ee0, yy0, b1 g]) (Below.refl _ _) rfl
            · refine ob_plain [62, 66] rfl rfl fun aa g h => ?_
              obtain ⟨_, yy0, rfl⟩ := seen_in rfl h.1
              have ee0 := getD_of yy0
              obtain ⟨_, yy1, rfl⟩ := seen_in rfl h.2.1
              have ee1 := getD_of yy1
              exact tupon_value (v := .int .i64 m) (by simp [go_sem, ee0, yy0, ee1, yy1, hm9, hn0]) (Below.refl _ _) rfl
            · refine ob_plain [67] rfl rfl fun aa g h => ?_
              obtain ⟨_, yy0, rfl⟩ := seen_in rfl h.1
              have ee0 := getD_of yy0
              exact tupon_value (v := .agg #[.int .i64 2, .int .i64 m, .int .i64 0, .int .i64 0]) (by simp [go_sem, ee0, yy0]) (Below.refl _ _) rfl
            · refine ob_plain [68] rfl rfl fun aa g h => ?_
              obtain ⟨_, yy0, rfl⟩ := seen_in rfl h.1
              have ee0 := getD_of yy0
              exact tupon_value (v := .slice (some ⟨g.w.heap.size, 0, none⟩) 1 1) (w1 := g.w.alloc (.cells #[.int .i64 2, .int .i64 m, .int .i64 0, .int .i64 0] 63)) (by simp [go_sem, ee0, yy0]) ((Below.refl _ _).alloc (Nat.le_refl _) _) ⟨_, rfl, g.h.size, World.alloc_heap_new _ _⟩
            · refine ob_plain [69] rfl rfl fun aa g h => ?_
              obtain ⟨_, yy0, ⟨X69, rfl, hX69, hI69⟩⟩ := seen_in rfl h.1
              have ee0 := getD_of yy0
              exact tupon_value (v := .slice (some ⟨X69, 0, none⟩) 1 1) (by simp [go_sem, ee0, yy0]) (Below.refl _ _) (own_node ⟨2, m, 0, 0⟩ hI69 hX69)
          rintro w5 hB _ rfl _ rfl _ rfl _ rfl _ rfl _ rfl _ rfl _ rfl _ rfl _ ⟨X69, rfl, hX69, hI69⟩ v4 hO4
          simp only [Act.put, List.setIfInBounds_toArray, List.set_cons_succ, List.set_cons_zero, List.filterMap_nil, finP]
          have HO4 := Lib.hid hO4
          have HB5 := Lib.hid hB
          clear hO4 hB hI69 hX69 z0 z1 z2 z3 b0 b1
          go_wp2_with (fail)
          go_ret
          exact FIN.out v4 (.e0 ⟨2, m, 0, 0⟩) W8 w5 R (grown_of7 (Below.refl _ _)) HBU8.out hRm HB5.out HO4.out ⟨rfl, by unfold vnB; simp; omega⟩ H2.out
        · clear IH
          have hE9 : Below W8.heap.size W8 (W8.alloc (.cells #[.int .i64 3, .int .i64 0, .int .i64 0, .int .i64 0] 63)) := allocs_below [.cells #[.int .i64 3, .int .i64 0, .int .i64 0, .int .i64 0] 63] W8
          have HX9 := Lib.hid (own_node (B := W8.heap.size) ⟨3, 0, 0, 0⟩ (World.alloc_heap_new W8 (.cells #[.int .i64 3, .int .i64 0, .int .i64 0, .int .i64 0] 63)) (Nat.le_refl _))
          have HE9 := Lib.hid hE9
          clear hE9
          go_enter Tryz.func40, Tryz.ntmps40
          go_wp2_with (fail)
          refine (arity7_ok 3 _ (by decide) (by decide)).mono ?_
          rintro e w' ⟨rfl, rfl⟩
          go_wp2_with (fail)
          go_ret
          exact FIN.out _ (.e0 ⟨3, 0, 0, 0⟩) W8 _ R (grown_of7 (Below.refl _ _)) HBU8.out hRm HE9.out HX9.out ⟨rfl, by unfold vnB; simp⟩ H2.out
        · have har := fun w => arity7_ok 4 w (by decide) (by decide)
          simp only [show ¬ ((4 : Int) ≤ 3) by decide, show ((4 : Int) ≤ 6) by decide, if_true, if_false] at har
          have HAR := Lib.hid har
          clear har
          by_cases hd1 : d = 0
          · subst hd1
            clear IH
            obtain ⟨s, hs⟩ : ∃ s, x.n % 2 = s := ⟨_, rfl⟩
            have hs0 : s = 0 ∨ s = 1 := by omega
            rcases hs0 with rfl | rfl
            · have hw9 : IntKind.i64.wrap (1 + q) = 1 + q := wrapN _ (by omega) (by omega)
              have hw8 : IntKind.i64.wrap q = q := wrapN _ (by omega) (by omega)
              have hnb := near_bd (x.lo, x.hi) (d := 1) (by omega)
              go_enter Tryz.func40, Tryz.ntmps40
              go_wp2_with (fail)
              refine (HAR.out _).mono ?_
              rintro e w' ⟨rfl, rfl⟩
              go_wp2_with (fail)
              refine (r2near x.lo x.hi (1) _ (by omega) (by omega)).mono ?_
              rintro e w1 ⟨rfl, hB1⟩
              have HN := Lib.hid hnb
              clear hnb
              generalize nearI (x.lo, x.hi) (1) = nn at *
              obtain ⟨n0, n1⟩ := nn
              go_wp2_with (fail)
              refine (const7_ok n0 n1 _).mono ?_
              rintro e w2 ⟨v, rfl, hO, hB2⟩
              have HO := Lib.hid hO
              have HB2 := Lib.hid hB2
              have HB1 := Lib.hid hB1
              clear hO hB1 hB2
              go_wp2_with (fail)
              go_ret
              have hnb := HN.out
              try dsimp only at hnb
              exact FIN.out v (.e0 ⟨1, 0, n0, n1⟩) w1 w2 R (grown_of7 HB1.out) (HBU8.out.grow HB1.out) hRm HB2.out HO.out ⟨rfl, by unfold vnB; simp; exact .inr ⟨by unfold Num; omega, by unfold Num; omega, by omega⟩⟩ H2.out
            · have hw9 : IntKind.i64.wrap (1 + q) = 1 + q := wrapN _ (by omega) (by omega)
              have hw8 : IntKind.i64.wrap q = q := wrapN _ (by omega) (by omega)
              have hnb := near_bd (x.lo, x.hi) (d := 1 + q) (by omega)
              go_enter Tryz.func40, Tryz.ntmps40
              go_wp2_with (fail)
              refine (HAR.out _).mono ?_
              rintro e w' ⟨rfl, rfl⟩
              go_wp2_with (fail)
              refine (r2near x.lo x.hi (1 + q) _ (by omega) (by omega)).mono ?_
              rintro e w1 ⟨rfl, hB1⟩
              have HN := Lib.hid hnb
              clear hnb
              generalize nearI (x.lo, x.hi) (1 + q) = nn at *
              obtain ⟨n0, n1⟩ := nn
              go_wp2_with (fail)
              refine (const7_ok n0 n1 _).mono ?_
              rintro e w2 ⟨v, rfl, hO, hB2⟩
              have HO := Lib.hid hO
              have HB2 := Lib.hid hB2
              have HB1 := Lib.hid hB1
              clear hO hB1 hB2
              go_wp2_with (fail)
              go_ret
              have hnb := HN.out
              try dsimp only at hnb
              exact FIN.out v (.e0 ⟨1, 0, n0, n1⟩) w1 w2 R (grown_of7 HB1.out) (HBU8.out.grow HB1.out) hRm HB2.out HO.out ⟨rfl, by unfold vnB; simp; exact .inr ⟨by unfold Num; omega, by unfold Num; omega, by omega⟩⟩ H2.out
          · have hd2 : ¬ (((d + 1 : Nat) : Int) < 2) := by omega
            have hw7 : IntKind.i64.wrap (((d + 1 : Nat) : Int) - 1) = (d : Int) := by rw [wrapN _ (by omega) (by omega)]; omega
            have h32 : 2 ^ d ≤ 16 := Nat.le_trans (Nat.pow_le_pow_right (by decide) (show d ≤ 4 by omega)) (by decide)
            have H32 := Lib.hid h32
            clear h32
            go_enter Tryz.func40, Tryz.ntmps40
            go_wp2_with (fail)
            refine (HAR.out _).mono ?_
            rintro e w' ⟨rfl, rfl⟩
            go_wp2_with (fail)
            refine (HAR.out _).mono ?_
            rintro e w' ⟨rfl, rfl⟩
            go_wp2_with (fail)
            refine (IH (by omega) (by omega) R W8 hRm HBU8.out).mono ?_
            rintro e w1 ⟨v, rfl, ⟨t, R1, hO, hEV, hlen, hB1, hR1⟩, hg1⟩
            have hl15 : (pre t).length ≤ 1000 := by have := H32.out; omega
            have HNC := Lib.hid (nxc_own hO (by unfold maxLen; omega))
            obtain ⟨pv, cv, rfl⟩ := own_slice hO
            have HO := Lib.hid hO
            have HEV := Lib.hid hEV
            have HLN := Lib.hid hlen
            have HB1 := Lib.hid hB1
            have HG1 := Lib.hid hg1
            clear hO hEV hlen hB1 hg1 z0 z1 z2 z3 b1
            go_wp2_with (fail)
            refine (unary7_ok 4 _ (pre t) _ HNC.out hl15).mono ?_
            rintro e w2 ⟨v2, rfl, hO2, hB2⟩
            have HO2 := Lib.hid hO2
            have HB2 := Lib.hid hB2
            clear hO2 hB2
            go_wp2_with (fail)
            go_ret
            exact FIN.out v2 (.e1 ⟨4, 0, 0, 0⟩ t) w1 w2 R1 HG1.out HB1.out hR1 HB2.out (by have h := HO2.out; rw [Nat.add_comm] at h; exact h) ⟨⟨by decide, by unfold vnB; simp⟩, HEV.out⟩ (by
              have h1 := HLN.out
              have h2 := Nat.pow_succ (n := 2) (m := d)
              show (pre t).length + 1 < _
              have h3 := pow_pos7 d
              omega)
        · have har := fun w => arity7_ok 5 w (by decide) (by decide)
          simp only [show ¬ ((5 : Int) ≤ 3) by decide, show ((5 : Int) ≤ 6) by decide, if_true, if_false] at har
          have HAR := Lib.hid har
          clear har
          by_cases hd1 : d = 0
          · subst hd1
            clear IH
            obtain ⟨s, hs⟩ : ∃ s, x.n % 2 = s := ⟨_, rfl⟩
            have hs0 : s = 0 ∨ s = 1 := by omega
            rcases hs0 with rfl | rfl
            · have hw9 : IntKind.i64.wrap (1 + q) = 1 + q := wrapN _ (by omega) (by omega)
              have hw8 : IntKind.i64.wrap q = q := wrapN _ (by omega) (by omega)
              have hnb := near_bd (x.lo, x.hi) (d := 1) (by omega)
              go_enter Tryz.func40, Tryz.ntmps40
              go_wp2_with (fail)
              refine (HAR.out _).mono ?_
              rintro e w' ⟨rfl, rfl⟩
              go_wp2_with (fail)
              refine (r2near x.lo x.hi (1) _ (by omega) (by omega)).mono ?_
              rintro e w1 ⟨rfl, hB1⟩
              have HN := Lib.hid hnb
              clear hnb
              generalize nearI (x.lo, x.hi) (1) = nn at *
              obtain ⟨n0, n1⟩ := nn
              go_wp2_with (fail)
              refine (const7_ok n0 n1 _).mono ?_
              rintro e w2 ⟨v, rfl, hO, hB2⟩
              have HO := Lib.hid hO
              have HB2 := Lib.hid hB2
              have HB1 := Lib.hid hB1
              clear hO hB1 hB2
              go_wp2_with (fail)
              go_ret
              have hnb := HN.out
              try dsimp only at hnb
              exact FIN.out v (.e0 ⟨1, 0, n0, n1⟩) w1 w2 R (grown_of7 HB1.out) (HBU8.out.grow HB1.out) hRm HB2.out HO.out ⟨rfl, by unfold vnB; simp; exact .inr ⟨by unfold Num; omega, by unfold Num; omega, by omega⟩⟩ H2.out
            · have hw9 : IntKind.i64.wrap (1 + q) = 1 + q := wrapN _ (by omega) (by omega)
              have hw8 : IntKind.i64.wrap q = q := wrapN _ (by omega) (by omega)
              have hnb := near_bd (x.lo, x.hi) (d := 1 + q) (by omega)
              go_enter Tryz.func40, Tryz.ntmps40
              go_wp2_with (fail)
              refine (HAR.out _).mono ?_
              rintro e w' ⟨rfl, rfl⟩
              go_wp2_with (fail)
              refine (r2near x.lo x.hi (1 + q) _ (by omega) (by omega)).mono ?_
              rintro e w1 ⟨rfl, hB1⟩
              have HN := Lib.hid hnb
              clear hnb
              generalize nearI (x.lo, x.hi) (1 + q) = nn at *
              obtain ⟨n0, n1⟩ := nn
              go_wp2_with (fail)
              refine (const7_ok n0 n1 _).mono ?_
              rintro e w2 ⟨v, rfl, hO, hB2⟩
              have HO := Lib.hid hO
              have HB2 := Lib.hid hB2
              have HB1 := Lib.hid hB1
              clear hO hB1 hB2
              go_wp2_with (fail)
              go_ret
              have hnb := HN.out
              try dsimp only at hnb
              exact FIN.out v (.e0 ⟨1, 0, n0, n1⟩) w1 w2 R (grown_of7 HB1.out) (HBU8.out.grow HB1.out) hRm HB2.out HO.out ⟨rfl, by unfold vnB; simp; exact .inr ⟨by unfold Num; omega, by unfold Num; omega, by omega⟩⟩ H2.out
          · have hd2 : ¬ (((d + 1 : Nat) : Int) < 2) := by omega
            have hw7 : IntKind.i64.wrap (((d + 1 : Nat) : Int) - 1) = (d : Int) := by rw [wrapN _ (by omega) (by omega)]; omega
            have h32 : 2 ^ d ≤ 16 := Nat.le_trans (Nat.pow_le_pow_right (by decide) (show d ≤ 4 by omega)) (by decide)
            have H32 := Lib.hid h32
            clear h32
            go_enter Tryz.func40, Tryz.ntmps40
            go_wp2_with (fail)
            refine (HAR.out _).mono ?_
            rintro e w' ⟨rfl, rfl⟩
            go_wp2_with (fail)
            refine (HAR.out _).mono ?_
            rintro e w' ⟨rfl, rfl⟩
            go_wp2_with (fail)
            refine (IH (by omega) (by omega) R W8 hRm HBU8.out).mono ?_
            rintro e w1 ⟨v, rfl, ⟨t, R1, hO, hEV, hlen, hB1, hR1⟩, hg1⟩
            have hl15 : (pre t).length ≤ 1000 := by have := H32.out; omega
            have HNC := Lib.hid (nxc_own hO (by unfold maxLen; omega))
            obtain ⟨pv, cv, rfl⟩ := own_slice hO
            have HO := Lib.hid hO
            have HEV := Lib.hid hEV
            have HLN := Lib.hid hlen
            have HB1 := Lib.hid hB1
            have HG1 := Lib.hid hg1
            clear hO hEV hlen hB1 hg1 z0 z1 z2 z3 b1
            go_wp2_with (fail)
            refine (unary7_ok 5 _ (pre t) _ HNC.out hl15).mono ?_
            rintro e w2 ⟨v2, rfl, hO2, hB2⟩
            have HO2 := Lib.hid hO2
            have HB2 := Lib.hid hB2
            clear hO2 hB2
            go_wp2_with (fail)
            go_ret
            exact FIN.out v2 (.e1 ⟨5, 0, 0, 0⟩ t) w1 w2 R1 HG1.out HB1.out hR1 HB2.out (by have h := HO2.out; rw [Nat.add_comm] at h; exact h) ⟨⟨by decide, by unfold vnB; simp⟩, HEV.out⟩ (by
              have h1 := HLN.out
              have h2 := Nat.pow_succ (n := 2) (m := d)
              show (pre t).length + 1 < _
              have h3 := pow_pos7 d
              omega)
        · have har := fun w => arity7_ok 6 w (by decide) (by decide)
          simp only [show ¬ ((6 : Int) ≤ 3) by decide, show ((6 : Int) ≤ 6) by decide, if_true, if_false] at har
          have HAR := Lib.hid har
          clear har
          by_cases hd1 : d = 0
          · subst hd1
            clear IH
            obtain ⟨s, hs⟩ : ∃ s, x.n % 2 = s := ⟨_, rfl⟩
            have hs0 : s = 0 ∨ s = 1 := by omega
            rcases hs0 with rfl | rfl
            · have hw9 : IntKind.i64.wrap (1 + q) = 1 + q := wrapN _ (by omega) (by omega)
              have hw8 : IntKind.i64.wrap q = q := wrapN _ (by omega) (by omega)
              have hnb := near_bd (x.lo, x.hi) (d := 1) (by omega)
              go_enter Tryz.func40, Tryz.ntmps40
              go_wp2_with (fail)
              refine (HAR.out _).mono ?_
              rintro e w' ⟨rfl, rfl⟩
              go_wp2_with (fail)
              refine (r2near x.lo x.hi (1) _ (by omega) (by omega)).mono ?_
              rintro e w1 ⟨rfl, hB1⟩
              have HN := Lib.hid hnb
              clear hnb
              generalize nearI (x.lo, x.hi) (1) = nn at *
              obtain ⟨n0, n1⟩ := nn
              go_wp2_with (fail)
              refine (const7_ok n0 n1 _).mono ?_
              rintro e w2 ⟨v, rfl, hO, hB2⟩
              have HO := Lib.hid hO
              have HB2 := Lib.hid hB2
              have HB1 := Lib.hid hB1
              clear hO hB1 hB2
              go_wp2_with (fail)
              go_ret
              have hnb := HN.out
              try dsimp only at hnb
              exact FIN.out v (.e0 ⟨1, 0, n0, n1⟩) w1 w2 R (grown_of7 HB1.out) (HBU8.out.grow HB1.out) hRm HB2.out HO.out ⟨rfl, by unfold vnB; simp; exact .inr ⟨by unfold Num; omega, by unfold Num; omega, by omega⟩⟩ H2.out
            · have hw9 : IntKind.i64.wrap (1 + q) = 1 + q := wrapN _ (by omega) (by omega)
              have hw8 : IntKind.i64.wrap q = q := wrapN _ (by omega) (by omega)
              have hnb := near_bd (x.lo, x.hi) (d := 1 + q) (by omega)
              go_enter Tryz.func40, Tryz.ntmps40
              go_wp2_with (fail)
              refine (HAR.out _).mono ?_
              rintro e w' ⟨rfl, rfl⟩
              go_wp2_with (fail)
              refine (r2near x.lo x.hi (1 + q) _ (by omega) (by omega)).mono ?_
              rintro e w1 ⟨rfl, hB1⟩
              have HN := Lib.hid hnb
              clear hnb
              generalize nearI (x.lo, x.hi) (1 + q) = nn at *
              obtain ⟨n0, n1⟩ := nn
              go_wp2_with (fail)
              refine (const7_ok n0 n1 _).mono ?_
              rintro e w2 ⟨v, rfl, hO, hB2⟩
              have HO := Lib.hid hO
              have HB2 := Lib.hid hB2
              have HB1 := Lib.hid hB1
              clear hO hB1 hB2
              go_wp2_with (fail)
              go_ret
              have hnb := HN.out
              try dsimp only at hnb
              exact FIN.out v (.e0 ⟨1, 0, n0, n1⟩) w1 w2 R (grown_of7 HB1.out) (HBU8.out.grow HB1.out) hRm HB2.out HO.out ⟨rfl, by unfold vnB; simp; exact .inr ⟨by unfold Num; omega, by unfold Num; omega, by omega⟩⟩ H2.out
          · have hd2 : ¬ (((d + 1 : Nat) : Int) < 2) := by omega
            have hw7 : IntKind.i64.wrap (((d + 1 : Nat) : Int) - 1) = (d : Int) := by rw [wrapN _ (by omega) (by omega)]; omega
            have h32 : 2 ^ d ≤ 16 := Nat.le_trans (Nat.pow_le_pow_right (by decide) (show d ≤ 4 by omega)) (by decide)
            have H32 := Lib.hid h32
            clear h32
            go_enter Tryz.func40, Tryz.ntmps40
            go_wp2_with (fail)
            refine (HAR.out _).mono ?_
            rintro e w' ⟨rfl, rfl⟩
            go_wp2_with (fail)
            refine (HAR.out _).mono ?_
            rintro e w' ⟨rfl, rfl⟩
            go_wp2_with (fail)
            refine (IH (by omega) (by omega) R W8 hRm HBU8.out).mono ?_
            rintro e w1 ⟨v, rfl, ⟨t, R1, hO, hEV, hlen, hB1, hR1⟩, hg1⟩
            have hl15 : (pre t).length ≤ 1000 := by have := H32.out; omega
            have HNC := Lib.hid (nxc_own hO (by unfold maxLen; omega))
            obtain ⟨pv, cv, rfl⟩ := own_slice hO
            have HO := Lib.hid hO
            have HEV := Lib.hid hEV
            have HLN := Lib.hid hlen
            have HB1 := Lib.hid hB1
            have HG1 := Lib.hid hg1
            clear hO hEV hlen hB1 hg1 z0 z1 z2 z3 b1
            go_wp2_with (fail)
            refine (unary7_ok 6 _ (pre t) _ HNC.out hl15).mono ?_
            rintro e w2 ⟨v2, rfl, hO2, hB2⟩
            have HO2 := Lib.hid hO2
            have HB2 := Lib.hid hB2
            clear hO2 hB2
            go_wp2_with (fail)
            go_ret
            exact FIN.out v2 (.e1 ⟨6, 0, 0, 0⟩ t) w1 w2 R1 HG1.out HB1.out hR1 HB2.out (by have h := HO2.out; rw [Nat.add_comm] at h; exact h) ⟨⟨by decide, by unfold vnB; simp⟩, HEV.out⟩ (by
              have h1 := HLN.out
              have h2 := Nat.pow_succ (n := 2) (m := d)
              show (pre t).length + 1 < _
              have h3 := pow_pos7 d
              omega)
        · have har := fun w => arity7_ok 7 w (by decide) (by decide)
          simp only [show ¬ ((7 : Int) ≤ 3) by decide, show ¬ ((7 : Int) ≤ 6) by decide, if_true, if_false] at har
          have HAR := Lib.hid har
          clear har
          by_cases hd1 : d = 0
          · subst hd1
            clear IH
            obtain ⟨s, hs⟩ : ∃ s, x.n % 2 = s := ⟨_, rfl⟩
            have hs0 : s = 0 ∨ s = 1 := by omega
            rcases hs0 with rfl | rfl
            · have hw9 : IntKind.i64.wrap (1 + q) = 1 + q := wrapN _ (by omega) (by omega)
              have hw8 : IntKind.i64.wrap q = q := wrapN _ (by omega) (by omega)
              have hnb := near_bd (x.lo, x.hi) (d := 1) (by omega)
              go_enter Tryz.func40, Tryz.ntmps40
              go_wp2_with (fail)
              refine (HAR.out _).mono ?_
              rintro e w' ⟨rfl, rfl⟩
              go_wp2_with (fail)
              refine (r2near x.lo x.hi (1) _ (by omega) (by omega)).mono ?_
              rintro e w1 ⟨rfl, hB1⟩
              have HN := Lib.hid hnb
              clear hnb
              generalize nearI (x.lo, x.hi) (1) = nn at *
              obtain ⟨n0, n1⟩ := nn
              go_wp2_with (fail)
              refine (const7_ok n0 n1 _).mono ?_
              rintro e w2 ⟨v, rfl, hO, hB2⟩
              have HO := Lib.hid hO
              have HB2 := Lib.hid hB2
              have HB1 := Lib.hid hB1
              clear hO hB1 hB2
              go_wp2_with (fail)
              go_ret
              have hnb := HN.out
              try dsimp only at hnb
              exact FIN.out v (.e0 ⟨1, 0, n0, n1⟩) w1 w2 R (grown_of7 HB1.out) (HBU8.out.grow HB1.out) hRm HB2.out HO.out ⟨rfl, by unfold vnB; simp; exact .inr ⟨by unfold Num; omega, by unfold Num; omega, by omega⟩⟩ H2.out
            · have hw9 : IntKind.i64.wrap (1 + q) = 1 + q := wrapN _ (by omega) (by omega)
              have hw8 : IntKind.i64.wrap q = q := wrapN _ (by omega) (by omega)
              have hnb := near_bd (x.lo, x.hi) (d := 1 + q) (by omega)
              go_enter Tryz.func40, Tryz.ntmps40
              go_wp2_with (fail)
              refine (HAR.out _).mono ?_
              rintro e w' ⟨rfl, rfl⟩
              go_wp2_with (fail)
              refine (r2near x.lo x.hi (1 + q) _ (by omega) (by omega)).mono ?_
              rintro e w1 ⟨rfl, hB1⟩
              have HN := Lib.hid hnb
              clear hnb
              generalize nearI (x.lo, x.hi) (1 + q) = nn at *
              obtain ⟨n0, n1⟩ := nn
              go_wp2_with (fail)
              refine (const7_ok n0 n1 _).mono ?_
              rintro e w2 ⟨v, rfl, hO, hB2⟩
              have HO := Lib.hid hO
              have HB2 := Lib.hid hB2
              have HB1 := Lib.hid hB1
              clear hO hB1 hB2
              go_wp2_with (fail)
              go_ret
              have hnb := HN.out
              try dsimp only at hnb
              exact FIN.out v (.e0 ⟨1, 0, n0, n1⟩) w1 w2 R (grown_of7 HB1.out) (HBU8.out.grow HB1.out) hRm HB2.out HO.out ⟨rfl, by unfold vnB; simp; exact .inr ⟨by unfold Num; omega, by unfold Num; omega, by omega⟩⟩ H2.out
          · have hd2 : ¬ (((d + 1 : Nat) : Int) < 2) := by omega
            have hw7 : IntKind.i64.wrap (((d + 1 : Nat) : Int) - 1) = (d : Int) := by rw [wrapN _ (by omega) (by omega)]; omega
            have h32 : 2 ^ d ≤ 16 := Nat.le_trans (Nat.pow_le_pow_right (by decide) (show d ≤ 4 by omega)) (by decide)
            have H32 := Lib.hid h32
            clear h32
            go_enter Tryz.func40, Tryz.ntmps40
            go_wp2_with (fail)
            refine (HAR.out _).mono ?_
            rintro e w' ⟨rfl, rfl⟩
            go_wp2_with (fail)
            refine (HAR.out _).mono ?_
            rintro e w' ⟨rfl, rfl⟩
            go_wp2_with (fail)
            refine (IH (by omega) (by omega) R W8 hRm HBU8.out).mono ?_
            rintro e w1 ⟨v, rfl, ⟨t, R1, hO, hEV, hlen, hB1, hR1⟩, hg1⟩
            have hl15 : (pre t).length ≤ 1000 := by have := H32.out; omega
            have HNC := Lib.hid (nxc_own hO (by unfold maxLen; omega))
            obtain ⟨pv, cv, rfl⟩ := own_slice hO
            have HO := Lib.hid hO
            have HEV := Lib.hid hEV
            have HLN := Lib.hid hlen
            have HB1 := Lib.hid hB1
            have HG1 := Lib.hid hg1
            clear hO hEV hlen hB1 hg1 z0 z1 z2 z3 b1
            go_wp2_with (fail)
            refine (IH (by omega) (by omega) R1 w1 hR1 HB1.out).mono ?_
            rintro e w3 ⟨v3, rfl, ⟨t3, R3, hO3, hEV3, hlen3, hB3, hR3⟩, hg3⟩
            have hl16 : (pre t3).length ≤ 1000 := by have := H32.out; omega
            have HNC3 := Lib.hid (nxc_own hO3 (by unfold maxLen; omega))
            have hbl1 : bb < w1.heap.size := by
              obtain ⟨p, c, h1, _⟩ := HB1.out.blk
              exact (Array.getElem?_eq_some_iff.1 h1).1
            have hkeep := HO.out.kept hg3 (by
              rcases e2 : (Value.slice pv (pre t).length cv).ownBlock with _ | b
              · exact .inl rfl
              · refine .inr fun e3 => ?_
                have h1 := (HO.out.lt b e2).1
                have h2 := Option.some.inj e3
                have h3 : bb < W8.heap.size := by
                  obtain ⟨p, c, h1, _⟩ := HBU8.out.blk
                  exact (Array.getElem?_eq_some_iff.1 h1).1
                omega)
            have HNC1 := Lib.hid (nxc_own hkeep (by unfold maxLen; omega))
            obtain ⟨pw, cw, rfl⟩ := own_slice hO3
            have HEV3 := Lib.hid hEV3
            have HLN3 := Lib.hid hlen3
            have HB3 := Lib.hid hB3
            have HG3 := Lib.hid (gb_trans HG1.out hg3)
            clear hO3 hEV3 hlen3 hB3 hg3 hkeep
            go_wp2_with (fail)
            refine (binary7_ok 7 _ _ (pre t) (pre t3) _ HNC1.out HNC3.out hl15 hl16).mono ?_
            rintro e w2 ⟨v2, rfl, hO2, hB2⟩
            have HO2 := Lib.hid hO2
            have HB2 := Lib.hid hB2
            clear hO2 hB2
            go_wp2_with (fail)
            go_ret
            exact FIN.out v2 (.e2 ⟨7, 0, 0, 0⟩ t t3) w3 w2 R3 HG3.out HB3.out hR3 HB2.out (by
              have h := HO2.out
              have e9 : (pre (.e2 ⟨7, 0, 0, 0⟩ t t3)).length = 1 + (pre t).length + (pre t3).length := by simp [pre]; omega
              rw [e9]
              exact h) ⟨⟨by decide, by unfold vnB; simp⟩, HEV.out, HEV3.out⟩ (by
              have h1 := HLN.out
              have h0 := HLN3.out
              have h2 := Nat.pow_succ (n := 2) (m := d)
              have e9 : (pre (.e2 ⟨7, 0, 0, 0⟩ t t3)).length = 1 + (pre t).length + (pre t3).length := by simp [pre]; omega
              rw [e9]
              omega)
        · have har := fun w => arity7_ok 8 w (by decide) (by decide)
          simp only [show ¬ ((8 : Int) ≤ 3) by decide, show ¬ ((8 : Int) ≤ 6) by decide, if_true, if_false] at har
          have HAR := Lib.hid har
          clear har
          by_cases hd1 : d = 0
          · subst hd1
            clear IH
            obtain ⟨s, hs⟩ : ∃ s, x.n % 2 = s := ⟨_, rfl⟩
            have hs0 : s = 0 ∨ s = 1 := by omega
            rcases hs0 with rfl | rfl
            · have hw9 : IntKind.i64.wrap (1 + q) = 1 + q := wrapN _ (by omega) (by omega)
              have hw8 : IntKind.i64.wrap q = q := wrapN _ (by omega) (by omega)
              have hnb := near_bd (x.lo, x.hi) (d := 1) (by omega)
              go_enter Tryz.func40, Tryz.ntmps40
              go_wp2_with (fail)
              refine (HAR.out _).mono ?_
              rintro e w' ⟨rfl, rfl⟩
              go_wp2_with (fail)
              refine (r2near x.lo x.hi (1) _ (by omega) (by omega)).mono ?_
              rintro e w1 ⟨rfl, hB1⟩
              have HN := Lib.hid hnb
              clear hnb
              generalize nearI (x.lo, x.hi) (1) = nn at *
              obtain ⟨n0, n1⟩ := nn
              go_wp2_with (fail)
              refine (const7_ok n0 n1 _).mono ?_
              rintro e w2 ⟨v, rfl, hO, hB2⟩
              have HO := Lib.hid hO
              have HB2 := Lib.hid hB2
              have HB1 := Lib.hid hB1
              clear hO hB1 hB2
              go_wp2_with (fail)
              go_ret
              have hnb := HN.out
              try dsimp only at hnb
              exact FIN.out v (.e0 ⟨1, 0, n0, n1⟩) w1 w2 R (grown_of7 HB1.out) (HBU8.out.grow HB1.out) hRm HB2.out HO.out ⟨rfl, by unfold vnB; simp; exact .inr ⟨by unfold Num; omega, by unfold Num; omega, by omega⟩⟩ H2.out
            · have hw9 : IntKind.i64.wrap (1 + q) = 1 + q := wrapN _ (by omega) (by omega)
              have hw8 : IntKind.i64.wrap q = q := wrapN _ (by omega) (by omega)
              have hnb := near_bd (x.lo, x.hi) (d := 1 + q) (by omega)
              go_enter Tryz.func40, Tryz.ntmps40
              go_wp2_with (fail)
              refine (HAR.out _).mono ?_
              rintro e w' ⟨rfl, rfl⟩
              go_wp2_with (fail)
              refine (r2near x.lo x.hi (1 + q) _ (by omega) (by omega)).mono ?_
              rintro e w1 ⟨rfl, hB1⟩
              have HN := Lib.hid hnb
              clear hnb
              generalize nearI (x.lo, x.hi) (1 + q) = nn at *
              obtain ⟨n0, n1⟩ := nn
              go_wp2_with (fail)
              refine (const7_ok n0 n1 _).mono ?_
              rintro e w2 ⟨v, rfl, hO, hB2⟩
              have HO := Lib.hid hO
              have HB2 := Lib.hid hB2
              have HB1 := Lib.hid hB1
              clear hO hB1 hB2
              go_wp2_with (fail)
              go_ret
              have hnb := HN.out
              try dsimp only at hnb
              exact FIN.out v (.e0 ⟨1, 0, n0, n1⟩) w1 w2 R (grown_of7 HB1.out) (HBU8.out.grow HB1.out) hRm HB2.out HO.out ⟨rfl, by unfold vnB; simp; exact .inr ⟨by unfold Num; omega, by unfold Num; omega, by omega⟩⟩ H2.out
          · have hd2 : ¬ (((d + 1 : Nat) : Int) < 2) := by omega
            have hw7 : IntKind.i64.wrap (((d + 1 : Nat) : Int) - 1) = (d : Int) := by rw [wrapN _ (by omega) (by omega)]; omega
            have h32 : 2 ^ d ≤ 16 := Nat.le_trans (Nat.pow_le_pow_right (by decide) (show d ≤ 4 by omega)) (by decide)
            have H32 := Lib.hid h32
            clear h32
            go_enter Tryz.func40, Tryz.ntmps40
            go_wp2_with (fail)
            refine (HAR.out _).mono ?_
            rintro e w' ⟨rfl, rfl⟩
            go_wp2_with (fail)
            refine (HAR.out _).mono ?_
            rintro e w' ⟨rfl, rfl⟩
            go_wp2_with (fail)
            refine (IH (by omega) (by omega) R W8 hRm HBU8.out).mono ?_
            rintro e w1 ⟨v, rfl, ⟨t, R1, hO, hEV, hlen, hB1, hR1⟩, hg1⟩
            have hl15 : (pre t).length ≤ 1000 := by have := H32.out; omega
            have HNC := Lib.hid (nxc_own hO (by unfold maxLen; omega))
            obtain ⟨pv, cv, rfl⟩ := own_slice hO
            have HO := Lib.hid hO
            have HEV := Lib.hid hEV
            have HLN := Lib.hid hlen
            have HB1 := Lib.hid hB1
            have HG1 := Lib.hid hg1
            clear hO hEV hlen hB1 hg1 z0 z1 z2 z3 b1
            go_wp2_with (fail)
            refine (IH (by omega) (by omega) R1 w1 hR1 HB1.out).mono ?_
            rintro e w3 ⟨v3, rfl, ⟨t3, R3, hO3, hEV3, hlen3, hB3, hR3⟩, hg3⟩
            have hl16 : (pre t3).length ≤ 1000 := by have := H32.out; omega
            have HNC3 := Lib.hid (nxc_own hO3 (by unfold maxLen; omega))
            have hbl1 : bb < w1.heap.size := by
              obtain ⟨p, c, h1, _⟩ := HB1.out.blk
              exact (Array.getElem?_eq_some_iff.1 h1).1
            have hkeep := HO.out.kept hg3 (by
              rcases e2 : (Value.slice pv (pre t).length cv).ownBlock with _ | b
              · exact .inl rfl
              · refine .inr fun e3 => ?_
                have h1 := (HO.out.lt b e2).1
                have h2 := Option.some.inj e3
                have h3 : bb < W8.heap.size := by
                  obtain ⟨p, c, h1, _⟩ := HBU8.out.blk
                  exact (Array.getElem?_eq_some_iff.1 h1).1
                omega)
            have HNC1 := Lib.hid (nxc_own hkeep (by unfold maxLen; omega))
            obtain ⟨pw, cw, rfl⟩ := own_slice hO3
            have HEV3 := Lib.hid hEV3
            have HLN3 := Lib.hid hlen3
            have HB3 := Lib.hid hB3
            have HG3 := Lib.hid (gb_trans HG1.out hg3)
            clear hO3 hEV3 hlen3 hB3 hg3 hkeep
            go_wp2_with (fail)
            refine (binary7_ok 8 _ _ (pre t) (pre t3) _ HNC1.out HNC3.out hl15 hl16).mono ?_
            rintro e w2 ⟨v2, rfl, hO2, hB2⟩
            have HO2 := Lib.hid hO2
            have HB2 := Lib.hid hB2
            clear hO2 hB2
            go_wp2_with (fail)
            go_ret
            exact FIN.out v2 (.e2 ⟨8, 0, 0, 0⟩ t t3) w3 w2 R3 HG3.out HB3.out hR3 HB2.out (by
              have h := HO2.out
              have e9 : (pre (.e2 ⟨8, 0, 0, 0⟩ t t3)).length = 1 + (pre t).length + (pre t3).length := by simp [pre]; omega
              rw [e9]
              exact h) ⟨⟨by decide, by unfold vnB; simp⟩, HEV.out, HEV3.out⟩ (by
              have h1 := HLN.out
              have h0 := HLN3.out
              have h2 := Nat.pow_succ (n := 2) (m := d)
              have e9 : (pre (.e2 ⟨8, 0, 0, 0⟩ t t3)).length = 1 + (pre t).length + (pre t3).length := by simp [pre]; omega
              rw [e9]
              omega)
        · have har := fun w => arity7_ok 9 w (by decide) (by decide)
          simp only [show ¬ ((9 : Int) ≤ 3) by decide, show ¬ ((9 : Int) ≤ 6) by decide, if_true, if_false] at har
          have HAR := Lib.hid har
          clear har
          by_cases hd1 : d = 0
          · subst hd1
            clear IH
            obtain ⟨s, hs⟩ : ∃ s, x.n % 2 = s := ⟨_, rfl⟩
            have hs0 : s = 0 ∨ s = 1 := by omega
            rcases hs0 with rfl | rfl
            · have hw9 : IntKind.i64.wrap (1 + q) = 1 + q := wrapN _ (by omega) (by omega)
              have hw8 : IntKind.i64.wrap q = q := wrapN _ (by omega) (by omega)
              have hnb := near_bd (x.lo, x.hi) (d := 1) (by omega)
              go_enter Tryz.func40, Tryz.ntmps40
              go_wp2_with (fail)
              refine (HAR.out _).mono ?_
              rintro e w' ⟨rfl, rfl⟩
              go_wp2_with (fail)
              refine (r2near x.lo x.hi (1) _ (by omega) (by omega)).mono ?_
              rintro e w1 ⟨rfl, hB1⟩
              have HN := Lib.hid hnb
              clear hnb
              generalize nearI (x.lo, x.hi) (1) = nn at *
              obtain ⟨n0, n1⟩ := nn
              go_wp2_with (fail)
              refine (const7_ok n0 n1 _).mono ?_
              rintro e w2 ⟨v, rfl, hO, hB2⟩
              have HO := Lib.hid hO
              have HB2 := Lib.hid hB2
              have HB1 := Lib.hid hB1
              clear hO hB1 hB2
              go_wp2_with (fail)
              go_ret
              have hnb := HN.out
              try dsimp only at hnb
              exact FIN.out v (.e0 ⟨1, 0, n0, n1⟩) w1 w2 R (grown_of7 HB1.out) (HBU8.out.grow HB1.out) hRm HB2.out HO.out ⟨rfl, by unfold vnB; simp; exact .inr ⟨by unfold Num; omega, by unfold Num; omega, by omega⟩⟩ H2.out
            · have hw9 : IntKind.i64.wrap (1 + q) = 1 + q := wrapN _ (by omega) (by omega)
              have hw8 : IntKind.i64.wrap q = q := wrapN _ (by omega) (by omega)
              have hnb := near_bd (x.lo, x.hi) (d := 1 + q) (by omega)
              go_enter Tryz.func40, Tryz.ntmps40
              go_wp2_with (fail)
              refine (HAR.out _).mono ?_
              rintro e w' ⟨rfl, rfl⟩
              go_wp2_with (fail)
              refine (r2near x.lo x.hi (1 + q) _ (by omega) (by omega)).mono ?_
              rintro e w1 ⟨rfl, hB1⟩
              have HN := Lib.hid hnb
              clear hnb
              generalize nearI (x.lo, x.hi) (1 + q) = nn at *
              obtain ⟨n0, n1⟩ := nn
              go_wp2_with (fail)
              refine (const7_ok n0 n1 _).mono ?_
              rintro e w2 ⟨v, rfl, hO, hB2⟩
              have HO := Lib.hid hO
              have HB2 := Lib.hid hB2
              have HB1 := Lib.hid hB1
              clear hO hB1 hB2
              go_wp2_with (fail)
              go_ret
              have hnb := HN.out
              try dsimp only at hnb
              exact FIN.out v (.e0 ⟨1, 0, n0, n1⟩) w1 w2 R (grown_of7 HB1.out) (HBU8.out.grow HB1.out) hRm HB2.out HO.out ⟨rfl, by unfold vnB; simp; exact .inr ⟨by unfold Num; omega, by unfold Num; omega, by omega⟩⟩ H2.out
          · have hd2 : ¬ (((d + 1 : Nat) : Int) < 2) := by omega
            have hw7 : IntKind.i64.wrap (((d + 1 : Nat) : Int) - 1) = (d : Int) := by rw [wrapN _ (by omega) (by omega)]; omega
            have h32 : 2 ^ d ≤ 16 := Nat.le_trans (Nat.pow_le_pow_right (by decide) (show d ≤ 4 by omega)) (by decide)
            have H32 := Lib.hid h32
            clear h32
            go_enter Tryz.func40, Tryz.ntmps40
            go_wp2_with (fail)
            refine (HAR.out _).mono ?_
            rintro e w' ⟨rfl, rfl⟩
            go_wp2_with (fail)
            refine (HAR.out _).mono ?_
            rintro e w' ⟨rfl, rfl⟩
            go_wp2_with (fail)
            refine (IH (by omega) (by omega) R W8 hRm HBU8.out).mono ?_
            rintro e w1 ⟨v, rfl, ⟨t, R1, hO, hEV, hlen, hB1, hR1⟩, hg1⟩
            have hl15 : (pre t).length ≤ 1000 := by have := H32.out; omega
            have HNC := Lib.hid (nxc_own hO (by unfold maxLen; omega))
            obtain ⟨pv, cv, rfl⟩ := own_slice hO
            have HO := Lib.hid hO
            have HEV := Lib.hid hEV
            have HLN := Lib.hid hlen
            have HB1 := Lib.hid hB1
            have HG1 := Lib.hid hg1
            clear hO hEV hlen hB1 hg1 z0 z1 z2 z3 b1
            go_wp2_with (fail)
            refine (IH (by omega) (by omega) R1 w1 hR1 HB1.out).mono ?_
            rintro e w3 ⟨v3, rfl, ⟨t3, R3, hO3, hEV3, hlen3, hB3, hR3⟩, hg3⟩
            have hl16 : (pre t3).length ≤ 1000 := by have := H32.out; omega
            have HNC3 := Lib.hid (nxc_own hO3 (by unfold maxLen; omega))
            have hbl1 : bb < w1.heap.size := by
              obtain ⟨p, c, h1, _⟩ := HB1.out.blk
              exact (Array.getElem?_eq_some_iff.1 h1).1
            have hkeep := HO.out.kept hg3 (by
              rcases e2 : (Value.slice pv (pre t).length cv).ownBlock with _ | b
              · exact .inl rfl
              · refine .inr fun e3 => ?_
                have h1 := (HO.out.lt b e2).1
                have h2 := Option.some.inj e3
                have h3 : bb < W8.heap.size := by
                  obtain ⟨p, c, h1, _⟩ := HBU8.out.blk
                  exact (Array.getElem?_eq_some_iff.1 h1).1
                omega)
            have HNC1 := Lib.hid (nxc_own hkeep (by unfold maxLen; omega))
            obtain ⟨pw, cw, rfl⟩ := own_slice hO3
            have HEV3 := Lib.hid hEV3
            have HLN3 := Lib.hid hlen3
            have HB3 := Lib.hid hB3
            have HG3 := Lib.hid (gb_trans HG1.out hg3)
            clear hO3 hEV3 hlen3 hB3 hg3 hkeep
            go_wp2_with (fail)
            refine (binary7_ok 9 _ _ (pre t) (pre t3) _ HNC1.out HNC3.out hl15 hl16).mono ?_
            rintro e w2 ⟨v2, rfl, hO2, hB2⟩
            have HO2 := Lib.hid hO2
            have HB2 := Lib.hid hB2
            clear hO2 hB2
            go_wp2_with (fail)
            go_ret
            exact FIN.out v2 (.e2 ⟨9, 0, 0, 0⟩ t t3) w3 w2 R3 HG3.out HB3.out hR3 HB2.out (by
              have h := HO2.out
              have e9 : (pre (.e2 ⟨9, 0, 0, 0⟩ t t3)).length = 1 + (pre t).length + (pre t3).length := by simp [pre]; omega
              rw [e9]
              exact h) ⟨⟨by decide, by unfold vnB; simp⟩, HEV.out, HEV3.out⟩ (by
              have h1 := HLN.out
              have h0 := HLN3.out
              have h2 := Nat.pow_succ (n := 2) (m := d)
              have e9 : (pre (.e2 ⟨9, 0, 0, 0⟩ t t3)).length = 1 + (pre t).length + (pre t3).length := by simp [pre]; omega
              rw [e9]
              omega)
        · have har := fun w => arity7_ok 10 w (by decide) (by decide)
          simp only [show ¬ ((10 : Int) ≤ 3) by decide, show ¬ ((10 : Int) ≤ 6) by decide, if_true, if_false] at har
          have HAR := Lib.hid har
          clear har
          by_cases hd1 : d = 0
          · subst hd1
            clear IH
            obtain ⟨s, hs⟩ : ∃ s, x.n % 2 = s := ⟨_, rfl⟩
            have hs0 : s = 0 ∨ s = 1 := by omega
            rcases hs0 with rfl | rfl
            · have hw9 : IntKind.i64.wrap (1 + q) = 1 + q := wrapN _ (by omega) (by omega)
              have hw8 : IntKind.i64.wrap q = q := wrapN _ (by omega) (by omega)
              have hnb := near_bd (x.lo, x.hi) (d := 1) (by omega)
              go_enter Tryz.func40, Tryz.ntmps40
              go_wp2_with (fail)
              refine (HAR.out _).mono ?_
              rintro e w' ⟨rfl, rfl⟩
              go_wp2_with (fail)
              refine (r2near x.lo x.hi (1) _ (by omega) (by omega)).mono ?_
              rintro e w1 ⟨rfl, hB1⟩
              have HN := Lib.hid hnb
              clear hnb
              generalize nearI (x.lo, x.hi) (1) = nn at *
              obtain ⟨n0, n1⟩ := nn
              go_wp2_with (fail)
              refine (const7_ok n0 n1 _).mono ?_
              rintro e w2 ⟨v, rfl, hO, hB2⟩
              have HO := Lib.hid hO
              have HB2 := Lib.hid hB2
              have HB1 := Lib.hid hB1
              clear hO hB1 hB2
              go_wp2_with (fail)
              go_ret
              have hnb := HN.out
              try dsimp only at hnb
              exact FIN.out v (.e0 ⟨1, 0, n0, n1⟩) w1 w2 R (grown_of7 HB1.out) (HBU8.out.grow HB1.out) hRm HB2.out HO.out ⟨rfl, by unfold vnB; simp; exact .inr ⟨by unfold Num; omega, by unfold Num; omega, by omega⟩⟩ H2.out
            · have hw9 : IntKind.i64.wrap (1 + q) = 1 + q := wrapN _ (by omega) (by omega)
              have hw8 : IntKind.i64.wrap q = q := wrapN _ (by omega) (by omega)
              have hnb := near_bd (x.lo, x.hi) (d := 1 + q) (by omega)
              go_enter Tryz.func40, Tryz.ntmps40
              go_wp2_with (fail)
              refine (HAR.out _).mono ?_
              rintro e w' ⟨rfl, rfl⟩
              go_wp2_with (fail)
              refine (r2near x.lo x.hi (1 + q) _ (by omega) (by omega)).mono ?_
              rintro e w1 ⟨rfl, hB1⟩
              have HN := Lib.hid hnb
              clear hnb
              generalize nearI (x.lo, x.hi) (1 + q) = nn at *
              obtain ⟨n0, n1⟩ := nn
              go_wp2_with (fail)
              refine (const7_ok n0 n1 _).mono ?_
              rintro e w2 ⟨v, rfl, hO, hB2⟩
              have HO := Lib.hid hO
              have HB2 := Lib.hid hB2
              have HB1 := Lib.hid hB1
              clear hO hB1 hB2
              go_wp2_with (fail)
              go_ret
              have hnb := HN.out
              try dsimp only at hnb
              exact FIN.out v (.e0 ⟨1, 0, n0, n1⟩) w1 w2 R (grown_of7 HB1.out) (HBU8.out.grow HB1.out) hRm HB2.out HO.out ⟨rfl, by unfold vnB; simp; exact .inr ⟨by unfold Num; omega, by unfold Num; omega, by omega⟩⟩ H2.out
          · have hd2 : ¬ (((d + 1 : Nat) : Int) < 2) := by omega
            have hw7 : IntKind.i64.wrap (((d + 1 : Nat) : Int) - 1) = (d : Int) := by rw [wrapN _ (by omega) (by omega)]; omega
            have h32 : 2 ^ d ≤ 16 := Nat.le_trans (Nat.pow_le_pow_right (by decide) (show d ≤ 4 by omega)) (by decide)
            have H32 := Lib.hid h32
            clear h32
            go_enter Tryz.func40, Tryz.ntmps40
            go_wp2_with (fail)
            refine (HAR.out _).mono ?_
            rintro e w' ⟨rfl, rfl⟩
            go_wp2_with (fail)
            refine (HAR.out _).mono ?_
            rintro e w' ⟨rfl, rfl⟩
            go_wp2_with (fail)
            refine (IH (by omega) (by omega) R W8 hRm HBU8.out).mono ?_
            rintro e w1 ⟨v, rfl, ⟨t, R1, hO, hEV, hlen, hB1, hR1⟩, hg1⟩
            have hl15 : (pre t).length ≤ 1000 := by have := H32.out; omega
            have HNC := Lib.hid (nxc_own hO (by unfold maxLen; omega))
            obtain ⟨pv, cv, rfl⟩ := own_slice hO
            have HO := Lib.hid hO
            have HEV := Lib.hid hEV
            have HLN := Lib.hid hlen
            have HB1 := Lib.hid hB1
            have HG1 := Lib.hid hg1
            clear hO hEV hlen hB1 hg1 z0 z1 z2 z3 b1
            go_wp2_with (fail)
            refine (IH (by omega) (by omega) R1 w1 hR1 HB1.out).mono ?_
            rintro e w3 ⟨v3, rfl, ⟨t3, R3, hO3, hEV3, hlen3, hB3, hR3⟩, hg3⟩
            have hl16 : (pre t3).length ≤ 1000 := by have := H32.out; omega
            have HNC3 := Lib.hid (nxc_own hO3 (by unfold maxLen; omega))
            have hbl1 : bb < w1.heap.size := by
              obtain ⟨p, c, h1, _⟩ := HB1.out.blk
              exact (Array.getElem?_eq_some_iff.1 h1).1
            have hkeep := HO.out.kept hg3 (by
              rcases e2 : (Value.slice pv (pre t).length cv).ownBlock with _ | b
              · exact .inl rfl
              · refine .inr fun e3 => ?_
                have h1 := (HO.out.lt b e2).1
                have h2 := Option.some.inj e3
                have h3 : bb < W8.heap.size := by
                  obtain ⟨p, c, h1, _⟩ := HBU8.out.blk
                  exact (Array.getElem?_eq_some_iff.1 h1).1
                omega)
            have HNC1 := Lib.hid (nxc_own hkeep (by unfold maxLen; omega))
            obtain ⟨pw, cw, rfl⟩ := own_slice hO3
            have HEV3 := Lib.hid hEV3
            have HLN3 := Lib.hid hlen3
            have HB3 := Lib.hid hB3
            have HG3 := Lib.hid (gb_trans HG1.out hg3)
            clear hO3 hEV3 hlen3 hB3 hg3 hkeep
            go_wp2_with (fail)
            refine (binary7_ok 10 _ _ (pre t) (pre t3) _ HNC1.out HNC3.out hl15 hl16).mono ?_
            rintro e w2 ⟨v2, rfl, hO2, hB2⟩
            have HO2 := Lib.hid hO2
            have HB2 := Lib.hid hB2
            clear hO2 hB2
            go_wp2_with (fail)
            go_ret
            exact FIN.out v2 (.e2 ⟨10, 0, 0, 0⟩ t t3) w3 w2 R3 HG3.out HB3.out hR3 HB2.out (by
              have h := HO2.out
              have e9 : (pre (.e2 ⟨10, 0, 0, 0⟩ t t3)).length = 1 + (pre t).length + (pre t3).length := by simp [pre]; omega
              rw [e9]
              exact h) ⟨⟨by decide, by unfold vnB; simp⟩, HEV.out, HEV3.out⟩ (by
              have h1 := HLN.out
              have h0 := HLN3.out
              have h2 := Nat.pow_succ (n := 2) (m := d)
              have e9 : (pre (.e2 ⟨10, 0, 0, 0⟩ t t3)).length = 1 + (pre t).length + (pre t3).length := by simp [pre]; omega
              rw [e9]
              omega)
      · have hc1 : ¬ c' = 0 := by omega
        rw [if_neg hc1] at ho9
        subst ho9
        rcases (show r = 0 ∨ r = 1 ∨ r = 2 ∨ r = 3 ∨ r = 4 ∨ r = 5 ∨ r = 6 ∨ r = 7 ∨ r = 8 ∨ r = 9 by omega) with rfl | rfl | rfl | rfl | rfl | rfl | rfl | rfl | rfl | rfl
        · clear IH
          obtain ⟨s, hs⟩ : ∃ s, x.n % 2 = s := ⟨_, rfl⟩
          have hs0 : s = 0 ∨ s = 1 := by omega
          rcases hs0 with rfl | rfl
          · have hw9 : IntKind.i64.wrap (1 + q) = 1 + q := wrapN _ (by omega) (by omega)
            have hw8 : IntKind.i64.wrap q = q := wrapN _ (by omega) (by omega)
            have hnb := near_bd (x.lo, x.hi) (d := 1) (by omega)
            go_enter Tryz.func40, Tryz.ntmps40
            go_wp2_with (fail)
            refine (r2near x.lo x.hi (1) _ (by omega) (by omega)).mono ?_
            rintro e w1 ⟨rfl, hB1⟩
            have HN := Lib.hid hnb
            clear hnb
            generalize nearI (x.lo, x.hi) (1) = nn at *
            obtain ⟨n0, n1⟩ := nn
            go_wp2_with (fail)
            refine (const7_ok n0 n1 _).mono ?_
            rintro e w2 ⟨v, rfl, hO, hB2⟩
            have HO := Lib.hid hO
            have HB2 := Lib.hid hB2
            have HB1 := Lib.hid hB1
            clear hO hB1 hB2
            go_wp2_with (fail)
            go_ret
            have hnb := HN.out
            try dsimp only at hnb
            exact FIN.out v (.e0 ⟨1, 0, n0, n1⟩) w1 w2 R (grown_of7 HB1.out) (HBU8.out.grow HB1.out) hRm HB2.out HO.out ⟨rfl, by unfold vnB; simp; exact .inr ⟨by unfold Num; omega, by unfold Num; omega, by omega⟩⟩ H2.out
          · have hw9 : IntKind.i64.wrap (1 + q) = 1 + q := wrapN _ (by omega) (by omega)
            have hw8 : IntKind.i64.wrap q = q := wrapN _ (by omega) (by omega)
            have hnb := near_bd (x.lo, x.hi) (d := 1 + q) (by omega)
            go_enter Tryz.func40, Tryz.ntmps40
            go_wp2_with (fail)
            refine (r2near x.lo x.hi (1 + q) _ (by omega) (by omega)).mono ?_
            rintro e w1 ⟨rfl, hB1⟩
            have HN := Lib.hid hnb
            clear hnb
            generalize nearI (x.lo, x.hi) (1 + q) = nn at *
            obtain ⟨n0, n1⟩ := nn
            go_wp2_with (fail)
            refine (const7_ok n0 n1 _).mono ?_
            rintro e w2 ⟨v, rfl, hO, hB2⟩
            have HO := Lib.hid hO
            have HB2 := Lib.hid hB2
            have HB1 := Lib.hid hB1
            clear hO hB1 hB2
            go_wp2_with (fail)
            go_ret
            have hnb := HN.out
            try dsimp only at hnb
            exact FIN.out v (.e0 ⟨1, 0, n0, n1⟩) w1 w2 R (grown_of7 HB1.out) (HBU8.out.grow HB1.out) hRm HB2.out HO.out ⟨rfl, by unfold vnB; simp; exact .inr ⟨by unfold Num; omega, by unfold Num; omega, by omega⟩⟩ H2.out
        · clear IH
          obtain ⟨m, hm9⟩ : ∃ m, q.tmod n = m := ⟨_, rfl⟩
          have hm0 : 0 ≤ m ∧ m < n := by rw [← hm9]; exact ⟨Int.tmod_nonneg _ (by omega), Int.tmod_lt_of_pos _ (by omega)⟩
          have hn0 : ¬ n = 0 := by omega
          go_enter Tryz.func40, Tryz.ntmps40
          go_wp2_with (fail)
          refine (arity7_ok 2 _ (by decide) (by decide)).mono ?_
          rintro e w' ⟨rfl, rfl⟩
          go_wp2_with (fail)
          have hblk8 : ∃ p c, W8.heap[bb]? = some (.cells #[.slice p R.length c, .int .i64 n] 66 (0, 0)) := by obtain ⟨p, c, h1, _⟩ := HBU8.out.blk; exact ⟨p, c, h1⟩
          obtain ⟨p8, c8, hblk8⟩ := hblk8
          have HK8 := Lib.hid (show Blk W8 bb (.cells #[.slice p8 R.length c8, .int .i64 n] 66) from hblk8)
          clear hblk8 z0 z1 z2 z3 b1 e8 u0 v0 y0 y1 x0 x1 x2 x3
          have z0 := fun g : Grown W8 => heapN_cellj (HND.out.grow g.h) (k := 0) rfl
          have z1 := fun g : Grown W8 => heapN_cellj (HND.out.grow g.h) (k := 1) rfl
          have z2 := fun g : Grown W8 => heapN_cellj (HND.out.grow g.h) (k := 2) rfl
          have z3 := fun g : Grown W8 => heapN_cellj (HND.out.grow g.h) (k := 3) rfl
          have b0 := fun g : Grown W8 => heapN_cellj (HK8.out.grow g.h) (k := 0) rfl
          have b1 := fun g : Grown W8 => heapN_cellj (HK8.out.grow g.h) (k := 1) rfl
          refine region_pred (lk [(60, fun z_ _ => z_ = .pointer (some ⟨w.heap.size, 1, none⟩)), (61, fun z_ _ => z_ = .int .i64 (x.n)), (62, fun z_ _ => z_ = .int .i64 q), (63, fun z_ _ => z_ = .pointer (some ⟨bb, 0, none⟩)), (64, fun z_ _ => z_ = .pointer (some ⟨bb, 0, none⟩)), (65, fun z_ _ => z_ = .pointer (some ⟨bb, 1, none⟩)), (66, fun z_ _ => z_ = .int .i64 n), (67, fun z_ _ => z_ = .int .i64 m), (68, fun z_ _ => z_ = .agg #[.int .i64 2, .int .i64 m, .int .i64 0, .int .i64 0]), (69, fun z_ w' => ∃ X_, z_ = .slice (some ⟨X_, 0, none⟩) 1 1 ∧ W8.heap.size ≤ X_ ∧ w'.heap[X_]? = some (.cells #[.int .i64 2, .int .i64 m, .int .i64 0, .int .i64 0] 63 (0, 0))), (4, fun z_ w' => World.ownsRow w' W8.heap.size 63 4 z_ 1 (cr encN [⟨2, m, 0, 0⟩]))]) (by kernel_rfl) (by kernel_rfl) (lk_steady _ ⟨steady_eq _, steady_eq _, steady_eq _, steady_eq _, steady_eq _, steady_eq _, steady_eq _, steady_eq _, steady_eq _, fun u w1 w2 hb ⟨X, e, h1, h2⟩ => ⟨X, e, h1, (hb.block X (Array.getElem?_eq_some_iff.1 h2).1).trans h2⟩, fun u w1 w2 hb h_ => own_keptN h_ hb, trivial⟩) ?_ ?_
          · refine ⟨?_, ?_, ?_, ?_, ?_, ?_, ?_, ?_, ?_, ?_, ?_, trivial⟩
            · refine ob_plain [5] rfl rfl fun aa g h => ?_
              have yy0 := seen_out (v := .pointer (some ⟨w.heap.size, 0, none⟩)) rfl rfl h.1
              have ee0 := getD_of yy0
              exact tupon_value (v := .pointer (some ⟨w.heap.size, 1, none⟩)) (by simp [go_sem, ee0, yy0]) (Below.refl _ _) rfl
            · refine ob_plain [60] rfl rfl fun aa g h => ?_
              obtain ⟨_, yy0, rfl⟩ := seen_in rfl h.1
              have ee0 := getD_of yy0
              exact tupon_value (v := .int .i64 (x.n)) (by simp [go_sem, ee0, yy0, z1 g]) (Below.refl _ _) rfl
            · refine ob_plain [61] rfl rfl fun aa g h => ?_
              obtain ⟨_, yy0, rfl⟩ := seen_in rfl h.1
              have ee0 := getD_of yy0
              exact tupon_value (v := .int .i64 q) (by simp [go_sem, ee0, yy0, hq]) (Below.refl _ _) rfl
            · refine ob_plain [0] rfl rfl fun aa g h => ?_
              have yy0 := seen_out (v := .pointer (some ⟨bb, 0, none⟩)) rfl rfl h.1
              have ee0 := getD_of yy0
              exact tupon_value (v := .pointer (some ⟨bb, 0, none⟩)) (by simp [go_sem, ee0, yy0]) (Below.refl _ _) rfl
            · refine ob_plain [63] rfl rfl fun aa g h => ?_
              obtain ⟨_, yy0, rfl⟩ := seen_in rfl h.1
              have ee0 := getD_of yy0
              exact tupon_value (v := .pointer (some ⟨bb, 0, none⟩)) (by simp [go_sem, ee0, yy0]) (Below.refl _ _) rfl
            · refine ob_plain [64] rfl rfl fun aa g h => ?_
              obtain ⟨_, yy0, rfl⟩ := seen_in rfl h.1
              have ee0 := getD_of yy0
              exact tupon_value (v := .pointer (some ⟨bb, 1, none⟩)) (by simp [go_sem, ee0, yy0]) (Below.refl _ _) rfl
            · refine ob_plain [65] rfl rfl fun aa g h => ?_
              obtain ⟨_, yy0, rfl⟩ := seen_in rfl h.1
              have ee0 := getD_of yy0
              exact tupon_value (v := .int .i64 n) (by simp [go_sem, ee0, yy0, b1 g]) (Below.refl _ _) rfl
            · refine ob_plain [62, 66] rfl rfl fun aa g h => ?_
              obtain ⟨_, yy0, rfl⟩ := seen_in rfl h.1
              have ee0 := getD_of yy0
              obtain ⟨_, yy1, rfl⟩ := seen_in rfl h.2.1
              have ee1 := getD_of yy1
              exact tupon_value (v := .int .i64 m) (by simp [go_sem, ee0, yy0, ee1, yy1, hm9, hn0]) (Below.refl _ _) rfl
            · refine ob_plain [67] rfl rfl fun aa g h => ?_
              obtain ⟨_, yy0, rfl⟩ := seen_in rfl h.1
              have ee0 := getD_of yy0
              exact tupon_value (v := .agg #[.int .i64 2, .int .i64 m, .int .i64 0, .int .i64 0]) (by simp [go_sem, ee0, yy0]) (Below.refl _ _) rfl
            · refine ob_plain [68] rfl rfl fun aa g h => ?_
              obtain ⟨_, yy0, rfl⟩ := seen_in rfl h.1
              have ee0 := getD_of yy0
              exact tupon_value (v := .slice (some ⟨g.w.heap.size, 0, none⟩) 1 1) (w1 := g.w.alloc (.cells #[.int .i64 2, .int .i64 m, .int .i64 0, .int .i64 0] 63)) (by simp [go_sem, ee0, yy0]) ((Below.refl _ _).alloc (Nat.le_refl _) _) ⟨_, rfl, g.h.size, World.alloc_heap_new _ _⟩
            · refine ob_plain [69] rfl rfl fun aa g h => ?_
              obtain ⟨_, yy0, ⟨X69, rfl, hX69, hI69⟩⟩ := seen_in rfl h.1
              have ee0 := getD_of yy0
              exact tupon_value (v := .slice (some ⟨X69, 0, none⟩) 1 1) (by simp [go_sem, ee0, yy0]) (Below.refl _ _) (own_node ⟨2, m, 0, 0⟩ hI69 hX69)
          rintro w5 hB _ rfl _ rfl _ rfl _ rfl _ rfl _ rfl _ rfl _ rfl _ rfl _ ⟨X69, rfl, hX69, hI69⟩ v4 hO4
          simp only [Act.put, List.setIfInBounds_toArray, List.set_cons_succ, List.set_cons_zero, List.filterMap_nil, finP]
          have HO4 := Lib.hid hO4
          have HB5 := Lib.hid hB
          clear hO4 hB hI69 hX69 z0 z1 z2 z3 b0 b1
          go_wp2_with (fail)
          go_ret
          exact FIN.out v4 (.e0 ⟨2, m, 0, 0⟩) W8 w5 R (grown_of7 (Below.refl _ _)) HBU8.out hRm HB5.out HO4.out ⟨rfl, by unfold vnB; simp; omega⟩ H2.out
        · clear IH
          have hE9 : Below W8.heap.size W8 (W8.alloc (.cells #[.int .i64 3, .int .i64 0, .int .i64 0, .int .i64 0] 63)) := allocs_below [.cells #[.int .i64 3, .int .i64 0, .int .i64 0, .int .i64 0] 63] W8
          have HX9 := Lib.hid (own_node (B := W8.heap.size) ⟨3, 0, 0, 0⟩ (World.alloc_heap_new W8 (.cells #[.int .i64 3, .int .i64 0, .int .i64 0, .int .i64 0] 63)) (Nat.le_refl _))
          have HE9 := Lib.hid hE9
          clear hE9
          go_enter Tryz.func40, Tryz.ntmps40
          go_wp2_with (fail)
          refine (arity7_ok 3 _ (by decide) (by decide)).mono ?_
          rintro e w' ⟨rfl, rfl⟩
          go_wp2_with (fail)
          go_ret
          exact FIN.out _ (.e0 ⟨3, 0, 0, 0⟩) W8 _ R (grown_of7 (Below.refl _ _)) HBU8.out hRm HE9.out HX9.out ⟨rfl, by unfold vnB; simp⟩ H2.out
        · have har := fun w => arity7_ok 4 w (by decide) (by decide)
          simp only [show ¬ ((4 : Int) ≤ 3) by decide, show ((4 : Int) ≤ 6) by decide, if_true, if_false] at har
          have HAR := Lib.hid har
          clear har
          by_cases hd1 : d = 0
          · subst hd1
            clear IH
            obtain ⟨s, hs⟩ : ∃ s, x.n % 2 = s := ⟨_, rfl⟩
            have hs0 : s = 0 ∨ s = 1 := by omega
            rcases hs0 with rfl | rfl
            · have hw9 : IntKind.i64.wrap (1 + q) = 1 + q := wrapN _ (by omega) (by omega)
              have hw8 : IntKind.i64.wrap q = q := wrapN _ (by omega) (by omega)
              have hnb := near_bd (x.lo, x.hi) (d := 1) (by omega)
              go_enter Tryz.func40, Tryz.ntmps40
              go_wp2_with (fail)
              refine (HAR.out _).mono ?_
              rintro e w' ⟨rfl, rfl⟩
              go_wp2_with (fail)
              refine (r2near x.lo x.hi (1) _ (by omega) (by omega)).mono ?_
              rintro e w1 ⟨rfl, hB1⟩
              have HN := Lib.hid hnb
              clear hnb
              generalize nearI (x.lo, x.hi) (1) = nn at *
              obtain ⟨n0, n1⟩ := nn
              go_wp2_with (fail)
              refine (const7_ok n0 n1 _).mono ?_
              rintro e w2 ⟨v, rfl, hO, hB2⟩
              have HO := Lib.hid hO
              have HB2 := Lib.hid hB2
              have HB1 := Lib.hid hB1
              clear hO hB1 hB2
              go_wp2_with (fail)
              go_ret
              have hnb := HN.out
              try dsimp only at hnb
              exact FIN.out v (.e0 ⟨1, 0, n0, n1⟩) w1 w2 R (grown_of7 HB1.out) (HBU8.out.grow HB1.out) hRm HB2.out HO.out ⟨rfl, by unfold vnB; simp; exact .inr ⟨by unfold Num; omega, by unfold Num; omega, by omega⟩⟩ H2.out
            · have hw9 : IntKind.i64.wrap (1 + q) = 1 + q := wrapN _ (by omega) (by omega)
              have hw8 : IntKind.i64.wrap q = q := wrapN _ (by omega) (by omega)
              have hnb := near_bd (x.lo, x.hi) (d := 1 + q) (by omega)
              go_enter Tryz.func40, Tryz.ntmps40
              go_wp2_with (fail)
              refine (HAR.out _).mono ?_
              rintro e w' ⟨rfl, rfl⟩
              go_wp2_with (fail)
              refine (r2near x.lo x.hi (1 + q) _ (by omega) (by omega)).mono ?_
              rintro e w1 ⟨rfl, hB1⟩
              have HN := Lib.hid hnb
              clear hnb
              generalize nearI (x.lo, x.hi) (1 + q) = nn at *
              obtain ⟨n0, n1⟩ := nn
              go_wp2_with (fail)
              refine (const7_ok n0 n1 _).mono ?_
              rintro e w2 ⟨v, rfl, hO, hB2⟩
              have HO := Lib.hid hO
              have HB2 := Lib.hid hB2
              have HB1 := Lib.hid hB1
              clear hO hB1 hB2
              go_wp2_with (fail)
              go_ret
              have hnb := HN.out
              try dsimp only at hnb
              exact FIN.out v (.e0 ⟨1, 0, n0, n1⟩) w1 w2 R (grown_of7 HB1.out) (HBU8.out.grow HB1.out) hRm HB2.out HO.out ⟨rfl, by unfold vnB; simp; exact .inr ⟨by unfold Num; omega, by unfold Num; omega, by omega⟩⟩ H2.out
          · have hd2 : ¬ (((d + 1 : Nat) : Int) < 2) := by omega
            have hw7 : IntKind.i64.wrap (((d + 1 : Nat) : Int) - 1) = (d : Int) := by rw [wrapN _ (by omega) (by omega)]; omega
            have h32 : 2 ^ d ≤ 16 := Nat.le_trans (Nat.pow_le_pow_right (by decide) (show d ≤ 4 by omega)) (by decide)
            have H32 := Lib.hid h32
            clear h32
            go_enter Tryz.func40, Tryz.ntmps40
            go_wp2_with (fail)
            refine (HAR.out _).mono ?_
            rintro e w' ⟨rfl, rfl⟩
            go_wp2_with (fail)
            refine (HAR.out _).mono ?_
            rintro e w' ⟨rfl, rfl⟩
            go_wp2_with (fail)
            refine (IH (by omega) (by omega) R W8 hRm HBU8.out).mono ?_
            rintro e w1 ⟨v, rfl, ⟨t, R1, hO, hEV, hlen, hB1, hR1⟩, hg1⟩
            have hl15 : (pre t).length ≤ 1000 := by have := H32.out; omega
            have HNC := Lib.hid (nxc_own hO (by unfold maxLen; omega))
            obtain ⟨pv, cv, rfl⟩ := own_slice hO
            have HO := Lib.hid hO
            have HEV := Lib.hid hEV
            have HLN := Lib.hid hlen
            have HB1 := Lib.hid hB1
            have HG1 := Lib.hid hg1
            clear hO hEV hlen hB1 hg1 z0 z1 z2 z3 b1
            go_wp2_with (fail)
            refine (unary7_ok 4 _ (pre t) _ HNC.out hl15).mono ?_
            rintro e w2 ⟨v2, rfl, hO2, hB2⟩
            have HO2 := Lib.hid hO2
            have HB2 := Lib.hid hB2
            clear hO2 hB2
            go_wp2_with (fail)
            go_ret
            exact FIN.out v2 (.e1 ⟨4, 0, 0, 0⟩ t) w1 w2 R1 HG1.out HB1.out hR1 HB2.out (by have h := HO2.out; rw [Nat.add_comm] at h; exact h) ⟨⟨by decide, by unfold vnB; simp⟩, HEV.out⟩ (by
              have h1 := HLN.out
              have h2 := Nat.pow_succ (n := 2) (m := d)
              show (pre t).length + 1 < _
              have h3 := pow_pos7 d
              omega)
        · have har := fun w => arity7_ok 5 w (by decide) (by decide)
          simp only [show ¬ ((5 : Int) ≤ 3) by decide, show ((5 : Int) ≤ 6) by decide, if_true, if_false] at har
          have HAR := Lib.hid har
          clear har
          by_cases hd1 : d = 0
          · subst hd1
            clear IH
            obtain ⟨s, hs⟩ : ∃ s, x.n % 2 = s := ⟨_, rfl⟩
            have hs0 : s = 0 ∨ s = 1 := by omega
            rcases hs0 with rfl | rfl
            · have hw9 : IntKind.i64.wrap (1 + q) = 1 + q := wrapN _ (by omega) (by omega)
              have hw8 : IntKind.i64.wrap q = q := wrapN _ (by omega) (by omega)
              have hnb := near_bd (x.lo, x.hi) (d := 1) (by omega)
              go_enter Tryz.func40, Tryz.ntmps40
              go_wp2_with (fail)
              refine (HAR.out _).mono ?_
              rintro e w' ⟨rfl, rfl⟩
              go_wp2_with (fail)
              refine (r2near x.lo x.hi (1) _ (by omega) (by omega)).mono ?_
              rintro e w1 ⟨rfl, hB1⟩
              have HN := Lib.hid hnb
              clear hnb
              generalize nearI (x.lo, x.hi) (1) = nn at *
              obtain ⟨n0, n1⟩ := nn
              go_wp2_with (fail)
              refine (const7_ok n0 n1 _).mono ?_
              rintro e w2 ⟨v, rfl, hO, hB2⟩
              have HO := Lib.hid hO
              have HB2 := Lib.hid hB2
              have HB1 := Lib.hid hB1
              clear hO hB1 hB2
              go_wp2_with (fail)
              go_ret
              have hnb := HN.out
              try dsimp only at hnb
              exact FIN.out v (.e0 ⟨1, 0, n0, n1⟩) w1 w2 R (grown_of7 HB1.out) (HBU8.out.grow HB1.out) hRm HB2.out HO.out ⟨rfl, by unfold vnB; simp; exact .inr ⟨by unfold Num; omega, by unfold Num; omega, by omega⟩⟩ H2.out
            · have hw9 : IntKind.i64.wrap (1 + q) = 1 + q := wrapN _ (by omega) (by omega)
              have hw8 : IntKind.i64.wrap q = q := wrapN _ (by omega) (by omega)
              have hnb := near_bd (x.lo, x.hi) (d := 1 + q) (by omega)
              go_enter Tryz.func40, Tryz.ntmps40
              go_wp2_with (fail)
              refine (HAR.out _).mono ?_
              rintro e w' ⟨rfl, rfl⟩
              go_wp2_with (fail)
              refine (r2near x.lo x.hi (1 + q) _ (by omega) (by omega)).mono ?_
              rintro e w1 ⟨rfl, hB1⟩
              have HN := Lib.hid hnb
              clear hnb
              generalize nearI (x.lo, x.hi) (1 + q) = nn at *
              obtain ⟨n0, n1⟩ := nn
              go_wp2_with (fail)
              refine (const7_ok n0 n1 _).mono ?_
              rintro e w2 ⟨v, rfl, hO, hB2⟩
              have HO := Lib.hid hO
              have HB2 := Lib.hid hB2
              have HB1 := Lib.hid hB1
              clear hO hB1 hB2
              go_wp2_with (fail)
              go_ret
              have hnb := HN.out
              try dsimp only at hnb
              exact FIN.out v (.e0 ⟨1, 0, n0, n1⟩) w1 w2 R (grown_of7 HB1.out) (HBU8.out.grow HB1.out) hRm HB2.out HO.out ⟨rfl, by unfold vnB; simp; exact .inr ⟨by unfold Num; omega, by unfold Num; omega, by omega⟩⟩ H2.out
          · have hd2 : ¬ (((d + 1 : Nat) : Int) < 2) := by omega
            have hw7 : IntKind.i64.wrap (((d + 1 : Nat) : Int) - 1) = (d : Int) := by rw [wrapN _ (by omega) (by omega)]; omega
            have h32 : 2 ^ d ≤ 16 := Nat.le_trans (Nat.pow_le_pow_right (by decide) (show d ≤ 4 by omega)) (by decide)
            have H32 := Lib.hid h32
            clear h32
            go_enter Tryz.func40, Tryz.ntmps40
            go_wp2_with (fail)
            refine (HAR.out _).mono ?_
            rintro e w' ⟨rfl, rfl⟩
            go_wp2_with (fail)
            refine (HAR.out _).mono ?_
            rintro e w' ⟨rfl, rfl⟩
            go_wp2_with (fail)
            refine (IH (by omega) (by omega) R W8 hRm HBU8.out).mono ?_
            rintro e w1 ⟨v, rfl, ⟨t, R1, hO, hEV, hlen, hB1, hR1⟩, hg1⟩
            have hl15 : (pre t).length ≤ 1000 := by have := H32.out; omega
            have HNC := Lib.hid (nxc_own hO (by unfold maxLen; omega))
            obtain ⟨pv, cv, rfl⟩ := own_slice hO
            have HO := Lib.hid hO
            have HEV := Lib.hid hEV
            have HLN := Lib.hid hlen
            have HB1 := Lib.hid hB1
            have HG1 := Lib.hid hg1
            clear hO hEV hlen hB1 hg1 z0 z1 z2 z3 b1
            go_wp2_with (fail)
            refine (unary7_ok 5 _ (pre t) _ HNC.out hl15).mono ?_
            rintro e w2 ⟨v2, rfl, hO2, hB2⟩
            have HO2 := Lib.hid hO2
            have HB2 := Lib.hid hB2
            clear hO2 hB2
            go_wp2_with (fail)
            go_ret
            exact FIN.out v2 (.e1 ⟨5, 0, 0, 0⟩ t) w1 w2 R1 HG1.out HB1.out hR1 HB2.out (by have h := HO2.out; rw [Nat.add_comm] at h; exact h) ⟨⟨by decide, by unfold vnB; simp⟩, HEV.out⟩ (by
              have h1 := HLN.out
              have h2 := Nat.pow_succ (n := 2) (m := d)
              show (pre t).length + 1 < _
              have h3 := pow_pos7 d
              omega)
        · have har := fun w => arity7_ok 6 w (by decide) (by decide)
          simp only [show ¬ ((6 : Int) ≤ 3) by decide, show ((6 : Int) ≤ 6) by decide, if_true, if_false] at har
          have HAR := Lib.hid har
          clear har
          by_cases hd1 : d = 0
          · subst hd1
            clear IH
            obtain ⟨s, hs⟩ : ∃ s, x.n % 2 = s := ⟨_, rfl⟩
            have hs0 : s = 0 ∨ s = 1 := by omega
            rcases hs0 with rfl | rfl
            · have hw9 : IntKind.i64.wrap (1 + q) = 1 + q := wrapN _ (by omega) (by omega)
              have hw8 : IntKind.i64.wrap q = q := wrapN _ (by omega) (by omega)
              have hnb := near_bd (x.lo, x.hi) (d := 1) (by omega)
              go_enter Tryz.func40, Tryz.ntmps40
              go_wp2_with (fail)
              refine (HAR.out _).mono ?_
              rintro e w' ⟨rfl, rfl⟩
              go_wp2_with (fail)
              refine (r2near x.lo x.hi (1) _ (by omega) (by omega)).mono ?_
              rintro e w1 ⟨rfl, hB1⟩
              have HN := Lib.hid hnb
              clear hnb
              generalize nearI (x.lo, x.hi) (1) = nn at *
              obtain ⟨n0, n1⟩ := nn
              go_wp2_with (fail)
              refine (const7_ok n0 n1 _).mono ?_
              rintro e w2 ⟨v, rfl, hO, hB2⟩
              have HO := Lib.hid hO
              have HB2 := Lib.hid hB2
              have HB1 := Lib.hid hB1
              clear hO hB1 hB2
              go_wp2_with (fail)
              go_ret
              have hnb := HN.out
              try dsimp only at hnb
              exact FIN.out v (.e0 ⟨1, 0, n0, n1⟩) w1 w2 R (grown_of7 HB1.out) (HBU8.out.grow HB1.out) hRm HB2.out HO.out ⟨rfl, by unfold vnB; simp; exact .inr ⟨by unfold Num; omega, by unfold Num; omega, by omega⟩⟩ H2.out
            · have hw9 : IntKind.i64.wrap (1 + q) = 1 + q := wrapN _ (by omega) (by omega)
              have hw8 : IntKind.i64.wrap q = q := wrapN _ (by omega) (by omega)
              have hnb := near_bd (x.lo, x.hi) (d := 1 + q) (by omega)
              go_enter Tryz.func40, Tryz.ntmps40
              go_wp2_with (fail)
              refine (HAR.out _).mono ?_
              rintro e w' ⟨rfl, rfl⟩
              go_wp2_with (fail)
              refine (r2near x.lo x.hi (1 + q) _ (by omega) (by omega)).mono ?_
              rintro e w1 ⟨rfl, hB1⟩
              have HN := Lib.hid hnb
              clear hnb
              generalize nearI (x.lo, x.hi) (1 + q) = nn at *
              obtain ⟨n0, n1⟩ := nn
              go_wp2_with (fail)
              refine (const7_ok n0 n1 _).mono ?_
              rintro e w2 ⟨v, rfl, hO, hB2⟩
              have HO := Lib.hid hO
              have HB2 := Lib.hid hB2
              have HB1 := Lib.hid hB1
              clear hO hB1 hB2
              go_wp2_with (fail)
              go_ret
              have hnb := HN.out
              try dsimp only at hnb
              exact FIN.out v (.e0 ⟨1, 0, n0, n1⟩) w1 w2 R (grown_of7 HB1.out) (HBU8.out.grow HB1.out) hRm HB2.out HO.out ⟨rfl, by unfold vnB; simp; exact .inr ⟨by unfold Num; omega, by unfold Num; omega, by omega⟩⟩ H2.out
          · have hd2 : ¬ (((d + 1 : Nat) : Int) < 2) := by omega
            have hw7 : IntKind.i64.wrap (((d + 1 : Nat) : Int) - 1) = (d : Int) := by rw [wrapN _ (by omega) (by omega)]; omega
            have h32 : 2 ^ d ≤ 16 := Nat.le_trans (Nat.pow_le_pow_right (by decide) (show d ≤ 4 by omega)) (by decide)
            have H32 := Lib.hid h32
            clear h32
            go_enter Tryz.func40, Tryz.ntmps40
            go_wp2_with (fail)
            refine (HAR.out _).mono ?_
            rintro e w' ⟨rfl, rfl⟩
            go_wp2_with (fail)
            refine (HAR.out _).mono ?_
            rintro e w' ⟨rfl, rfl⟩
            go_wp2_with (fail)
            refine (IH (by omega) (by omega) R W8 hRm HBU8.out).mono ?_
            rintro e w1 ⟨v, rfl, ⟨t, R1, hO, hEV, hlen, hB1, hR1⟩, hg1⟩
            have hl15 : (pre t).length ≤ 1000 := by have := H32.out; omega
            have HNC := Lib.hid (nxc_own hO (by unfold maxLen; omega))
            obtain ⟨pv, cv, rfl⟩ := own_slice hO
            have HO := Lib.hid hO
            have HEV := Lib.hid hEV
            have HLN := Lib.hid hlen
            have HB1 := Lib.hid hB1
            have HG1 := Lib.hid hg1
            clear hO hEV hlen hB1 hg1 z0 z1 z2 z3 b1
            go_wp2_with (fail)
            refine (unary7_ok 6 _ (pre t) _ HNC.out hl15).mono ?_
            rintro e w2 ⟨v2, rfl, hO2, hB2⟩
            have HO2 := Lib.hid hO2
            have HB2 := Lib.hid hB2
            clear hO2 hB2
            go_wp2_with (fail)
            go_ret
            exact FIN.out v2 (.e1 ⟨6, 0, 0, 0⟩ t) w1 w2 R1 HG1.out HB1.out hR1 HB2.out (by have h := HO2.out; rw [Nat.add_comm] at h; exact h) ⟨⟨by decide, by unfold vnB; simp⟩, HEV.out⟩ (by
              have h1 := HLN.out
              have h2 := Nat.pow_succ (n := 2) (m := d)
              show (pre t).length + 1 < _
              have h3 := pow_pos7 d
              omega)
        · have har := fun w => arity7_ok 7 w (by decide) (by decide)
          simp only [show ¬ ((7 : Int) ≤ 3) by decide, show ¬ ((7 : Int) ≤ 6) by decide, if_true, if_false] at har
          have HAR := Lib.hid har
          clear har
          by_cases hd1 : d = 0
          · subst hd1
            clear IH
            obtain ⟨s, hs⟩ : ∃ s, x.n % 2 = s := ⟨_, rfl⟩
            have hs0 : s = 0 ∨ s = 1 := by omega
            rcases hs0 with rfl | rfl
            · have hw9 : IntKind.i64.wrap (1 + q) = 1 + q := wrapN _ (by omega) (by omega)
              have hw8 : IntKind.i64.wrap q = q := wrapN _ (by omega) (by omega)
              have hnb := near_bd (x.lo, x.hi) (d := 1) (by omega)
              go_enter Tryz.func40, Tryz.ntmps40
              go_wp2_with (fail)
              refine (HAR.out _).mono ?_
              rintro e w' ⟨rfl, rfl⟩
              go_wp2_with (fail)
              refine (r2near x.lo x.hi (1) _ (by omega) (by omega)).mono ?_
              rintro e w1 ⟨rfl, hB1⟩
              have HN := Lib.hid hnb
              clear hnb
              generalize nearI (x.lo, x.hi) (1) = nn at *
              obtain ⟨n0, n1⟩ := nn
              go_wp2_with (fail)
              refine (const7_ok n0 n1 _).mono ?_
              rintro e w2 ⟨v, rfl, hO, hB2⟩
              have HO := Lib.hid hO
              have HB2 := Lib.hid hB2
              have HB1 := Lib.hid hB1
              clear hO hB1 hB2
              go_wp2_with (fail)
              go_ret
              have hnb := HN.out
              try dsimp only at hnb
              exact FIN.out v (.e0 ⟨1, 0, n0, n1⟩) w1 w2 R (grown_of7 HB1.out) (HBU8.out.grow HB1.out) hRm HB2.out HO.out ⟨rfl, by unfold vnB; simp; exact .inr ⟨by unfold Num; omega, by unfold Num; omega, by omega⟩⟩ H2.out
            · have hw9 : IntKind.i64.wrap (1 + q) = 1 + q := wrapN _ (by omega) (by omega)
              have hw8 : IntKind.i64.wrap q = q := wrapN _ (by omega) (by omega)
              have hnb := near_bd (x.lo, x.hi) (d := 1 + q) (by omega)
              go_enter Tryz.func40, Tryz.ntmps40
              go_wp2_with (fail)
              refine (HAR.out _).mono ?_
              rintro e w' ⟨rfl, rfl⟩
              go_wp2_with (fail)
              refine (r2near x.lo x.hi (1 + q) _ (by omega) (by omega)).mono ?_
              rintro e w1 ⟨rfl, hB1⟩
              have HN := Lib.hid hnb
              clear hnb
              generalize nearI (x.lo, x.hi) (1 + q) = nn at *
              obtain ⟨n0, n1⟩ := nn
              go_wp2_with (fail)
              refine (const7_ok n0 n1 _).mono ?_
              rintro e w2 ⟨v, rfl, hO, hB2⟩
              have HO := Lib.hid hO
              have HB2 := Lib.hid hB2
              have HB1 := Lib.hid hB1
              clear hO hB1 hB2
              go_wp2_with (fail)
              go_ret
              have hnb := HN.out
              try dsimp only at hnb
              exact FIN.out v (.e0 ⟨1, 0, n0, n1⟩) w1 w2 R (grown_of7 HB1.out) (HBU8.out.grow HB1.out) hRm HB2.out HO.out ⟨rfl, by unfold vnB; simp; exact .inr ⟨by unfold Num; omega, by unfold Num; omega, by omega⟩⟩ H2.out
          · have hd2 : ¬ (((d + 1 : Nat) : Int) < 2) := by omega
            have hw7 : IntKind.i64.wrap (((d + 1 : Nat) : Int) - 1) = (d : Int) := by rw [wrapN _ (by omega) (by omega)]; omega
            have h32 : 2 ^ d ≤ 16 := Nat.le_trans (Nat.pow_le_pow_right (by decide) (show d ≤ 4 by omega)) (by decide)
            have H32 := Lib.hid h32
            clear h32
            go_enter Tryz.func40, Tryz.ntmps40
            go_wp2_with (fail)
            refine (HAR.out _).mono ?_
            rintro e w' ⟨rfl, rfl⟩
            go_wp2_with (fail)
            refine (HAR.out _).mono ?_
            rintro e w' ⟨rfl, rfl⟩
            go_wp2_with (fail)
            refine (IH (by omega) (by omega) R W8 hRm HBU8.out).mono ?_
            rintro e w1 ⟨v, rfl, ⟨t, R1, hO, hEV, hlen, hB1, hR1⟩, hg1⟩
            have hl15 : (pre t).length ≤ 1000 := by have := H32.out; omega
            have HNC := Lib.hid (nxc_own hO (by unfold maxLen; omega))
            obtain ⟨pv, cv, rfl⟩ := own_slice hO
            have HO := Lib.hid hO
            have HEV := Lib.hid hEV
            have HLN := Lib.hid hlen
            have HB1 := Lib.hid hB1
            have HG1 := Lib.hid hg1
            clear hO hEV hlen hB1 hg1 z0 z1 z2 z3 b1
            go_wp2_with (fail)
            refine (IH (by omega) (by omega) R1 w1 hR1 HB1.out).mono ?_
            rintro e w3 ⟨v3, rfl, ⟨t3, R3, hO3, hEV3, hlen3, hB3, hR3⟩, hg3⟩
            have hl16 : (pre t3).length ≤ 1000 := by have := H32.out; omega
            have HNC3 := Lib.hid (nxc_own hO3 (by unfold maxLen; omega))
            have hbl1 : bb < w1.heap.size := by
              obtain ⟨p, c, h1, _⟩ := HB1.out.blk
              exact (Array.getElem?_eq_some_iff.1 h1).1
            have hkeep := HO.out.kept hg3 (by
              rcases e2 : (Value.slice pv (pre t).length cv).ownBlock with _ | b
              · exact .inl rfl
              · refine .inr fun e3 => ?_
                have h1 := (HO.out.lt b e2).1
                have h2 := Option.some.inj e3
                have h3 : bb < W8.heap.size := by
                  obtain ⟨p, c, h1, _⟩ := HBU8.out.blk
                  exact (Array.getElem?_eq_some_iff.1 h1).1
                omega)
            have HNC1 := Lib.hid (nxc_own hkeep (by unfold maxLen; omega))
            obtain ⟨pw, cw, rfl⟩ := own_slice hO3
            have HEV3 := Lib.hid hEV3
            have HLN3 := Lib.hid hlen3
            have HB3 := Lib.hid hB3
            have HG3 := Lib.hid (gb_trans HG1.out hg3)
            clear hO3 hEV3 hlen3 hB3 hg3 hkeep
            go_wp2_with (fail)
            refine (binary7_ok 7 _ _ (pre t) (pre t3) _ HNC1.out HNC3.out hl15 hl16).mono ?_
            rintro e w2 ⟨v2, rfl, hO2, hB2⟩
            have HO2 := Lib.hid hO2
            have HB2 := Lib.hid hB2
            clear hO2 hB2
            go_wp2_with (fail)
            go_ret
            exact FIN.out v2 (.e2 ⟨7, 0, 0, 0⟩ t t3) w3 w2 R3 HG3.out HB3.out hR3 HB2.out (by
              have h := HO2.out
              have e9 : (pre (.e2 ⟨7, 0, 0, 0⟩ t t3)).length = 1 + (pre t).length + (pre t3).length := by simp [pre]; omega
              rw [e9]
              exact h) ⟨⟨by decide, by unfold vnB; simp⟩, HEV.out, HEV3.out⟩ (by
              have h1 := HLN.out
              have h0 := HLN3.out
              have h2 := Nat.pow_succ (n := 2) (m := d)
              have e9 : (pre (.e2 ⟨7, 0, 0, 0⟩ t t3)).length = 1 + (pre t).length + (pre t3).length := by simp [pre]; omega
              rw [e9]
              omega)
        · have har := fun w => arity7_ok 8 w (by decide) (by decide)
          simp only [show ¬ ((8 : Int) ≤ 3) by decide, show ¬ ((8 : Int) ≤ 6) by decide, if_true, if_false] at har
          have HAR := Lib.hid har
          clear har
          by_cases hd1 : d = 0
          · subst hd1
            clear IH
            obtain ⟨s, hs⟩ : ∃ s, x.n % 2 = s := ⟨_, rfl⟩
            have hs0 : s = 0 ∨ s = 1 := by omega
            rcases hs0 with rfl | rfl
            · have hw9 : IntKind.i64.wrap (1 + q) = 1 + q := wrapN _ (by omega) (by omega)
              have hw8 : IntKind.i64.wrap q = q := wrapN _ (by omega) (by omega)
              have hnb := near_bd (x.lo, x.hi) (d := 1) (by omega)
              go_enter Tryz.func40, Tryz.ntmps40
              go_wp2_with (fail)
              refine (HAR.out _).mono ?_
              rintro e w' ⟨rfl, rfl⟩
              go_wp2_with (fail)
              refine (r2near x.lo x.hi (1) _ (by omega) (by omega)).mono ?_
              rintro e w1 ⟨rfl, hB1⟩
              have HN := Lib.hid hnb
              clear hnb
              generalize nearI (x.lo, x.hi) (1) = nn at *
              obtain ⟨n0, n1⟩ := nn
              go_wp2_with (fail)
              refine (const7_ok n0 n1 _).mono ?_
              rintro e w2 ⟨v, rfl, hO, hB2⟩
              have HO := Lib.hid hO
              have HB2 := Lib.hid hB2
              have HB1 := Lib.hid hB1
              clear hO hB1 hB2
              go_wp2_with (fail)
              go_ret
              have hnb := HN.out
              try dsimp only at hnb
              exact FIN.out v (.e0 ⟨1, 0, n0, n1⟩) w1 w2 R (grown_of7 HB1.out) (HBU8.out.grow HB1.out) hRm HB2.out HO.out ⟨rfl, by unfold vnB; simp; exact .inr ⟨by unfold Num; omega, by unfold Num; omega, by omega⟩⟩ H2.out
            · have hw9 : IntKind.i64.wrap (1 + q) = 1 + q := wrapN _ (by omega) (by omega)
              have hw8 : IntKind.i64.wrap q = q := wrapN _ (by omega) (by omega)
              have hnb := near_bd (x.lo, x.hi) (d := 1 + q) (by omega)
              go_enter Tryz.func40, Tryz.ntmps40
              go_wp2_with (fail)
              refine (HAR.out _).mono ?_
              rintro e w' ⟨rfl, rfl⟩
              go_wp2_with (fail)
              refine (r2near x.lo x.hi (1 + q) _ (by omega) (by omega)).mono ?_
              rintro e w1 ⟨rfl, hB1⟩
              have HN := Lib.hid hnb
              clear hnb
              generalize nearI (x.lo, x.hi) (1 + q) = nn at *
              obtain ⟨n0, n1⟩ := nn
              go_wp2_with (fail)
              refine (const7_ok n0 n1 _).mono ?_
              rintro e w2 ⟨v, rfl, hO, hB2⟩
              have HO := Lib.hid hO
              have HB2 := Lib.hid hB2
              have HB1 := Lib.hid hB1
              clear hO hB1 hB2
              go_wp2_with (fail)
              go_ret
              have hnb := HN.out
              try dsimp only at hnb
              exact FIN.out v (.e0 ⟨1, 0, n0, n1⟩) w1 w2 R (grown_of7 HB1.out) (HBU8.out.grow HB1.out) hRm HB2.out HO.out ⟨rfl, by unfold vnB; simp; exact .inr ⟨by unfold Num; omega, by unfold Num; omega, by omega⟩⟩ H2.out
          · have hd2 : ¬ (((d + 1 : Nat) : Int) < 2) := by omega
            have hw7 : IntKind.i64.wrap (((d + 1 : Nat) : Int) - 1) = (d : Int) := by rw [wrapN _ (by omega) (by omega)]; omega
            have h32 : 2 ^ d ≤ 16 := Nat.le_trans (Nat.pow_le_pow_right (by decide) (show d ≤ 4 by omega)) (by decide)
            have H32 := Lib.hid h32
            clear h32
            go_enter Tryz.func40, Tryz.ntmps40
            go_wp2_with (fail)
            refine (HAR.out _).mono ?_
            rintro e w' ⟨rfl, rfl⟩
            go_wp2_with (fail)
            refine (HAR.out _).mono ?_
            rintro e w' ⟨rfl, rfl⟩
            go_wp2_with (fail)
            refine (IH (by omega) (by omega) R W8 hRm HBU8.out).mono ?_
            rintro e w1 ⟨v, rfl, ⟨t, R1, hO, hEV, hlen, hB1, hR1⟩, hg1⟩
            have hl15 : (pre t).length ≤ 1000 := by have := H32.out; omega
            have HNC := Lib.hid (nxc_own hO (by unfold maxLen; omega))
            obtain ⟨pv, cv, rfl⟩ := own_slice hO
            have HO := Lib.hid hO
            have HEV := Lib.hid hEV
            have HLN := Lib.hid hlen
            have HB1 := Lib.hid hB1
            have HG1 := Lib.hid hg1
            clear hO hEV hlen hB1 hg1 z0 z1 z2 z3 b1
            go_wp2_with (fail)
            refine (IH (by omega) (by omega) R1 w1 hR1 HB1.out).mono ?_
            rintro e w3 ⟨v3, rfl, ⟨t3, R3, hO3, hEV3, hlen3, hB3, hR3⟩, hg3⟩
            have hl16 : (pre t3).length ≤ 1000 := by have := H32.out; omega
            have HNC3 := Lib.hid (nxc_own hO3 (by unfold maxLen; omega))
            have hbl1 : bb < w1.heap.size := by
              obtain ⟨p, c, h1, _⟩ := HB1.out.blk
              exact (Array.getElem?_eq_some_iff.1 h1).1
            have hkeep := HO.out.kept hg3 (by
              rcases e2 : (Value.slice pv (pre t).length cv).ownBlock with _ | b
              · exact .inl rfl
              · refine .inr fun e3 => ?_
                have h1 := (HO.out.lt b e2).1
                have h2 := Option.some.inj e3
                have h3 : bb < W8.heap.size := by
                  obtain ⟨p, c, h1, _⟩ := HBU8.out.blk
                  exact (Array.getElem?_eq_some_iff.1 h1).1
                omega)
            have HNC1 := Lib.hid (nxc_own hkeep (by unfold maxLen; omega))
            obtain ⟨pw, cw, rfl⟩ := own_slice hO3
            have HEV3 := Lib.hid hEV3
            have HLN3 := Lib.hid hlen3
            have HB3 := Lib.hid hB3
            have HG3 := Lib.hid (gb_trans HG1.out hg3)
            clear hO3 hEV3 hlen3 hB3 hg3 hkeep
            go_wp2_with (fail)
            refine (binary7_ok 8 _ _ (pre t) (pre t3) _ HNC1.out HNC3.out hl15 hl16).mono ?_
            rintro e w2 ⟨v2, rfl, hO2, hB2⟩
            have HO2 := Lib.hid hO2
            have HB2 := Lib.hid hB2
            clear hO2 hB2
            go_wp2_with (fail)
            go_ret
            exact FIN.out v2 (.e2 ⟨8, 0, 0, 0⟩ t t3) w3 w2 R3 HG3.out HB3.out hR3 HB2.out (by
              have h := HO2.out
              have e9 : (pre (.e2 ⟨8, 0, 0, 0⟩ t t3)).length = 1 + (pre t).length + (pre t3).length := by simp [pre]; omega
              rw [e9]
              exact h) ⟨⟨by decide, by unfold vnB; simp⟩, HEV.out, HEV3.out⟩ (by
              have h1 := HLN.out
              have h0 := HLN3.out
              have h2 := Nat.pow_succ (n := 2) (m := d)
              have e9 : (pre (.e2 ⟨8, 0, 0, 0⟩ t t3)).length = 1 + (pre t).length + (pre t3).length := by simp [pre]; omega
              rw [e9]
              omega)
        · have har := fun w => arity7_ok 9 w (by decide) (by decide)
          simp only [show ¬ ((9 : Int) ≤ 3) by decide, show ¬ ((9 : Int) ≤ 6) by decide, if_true, if_false] at har
          have HAR := Lib.hid har
          clear har
          by_cases hd1 : d = 0
          · subst hd1
            clear IH
            obtain ⟨s, hs⟩ : ∃ s, x.n % 2 = s := ⟨_, rfl⟩
            have hs0 : s = 0 ∨ s = 1 := by omega
            rcases hs0 with rfl | rfl
            · have hw9 : IntKind.i64.wrap (1 + q) = 1 + q := wrapN _ (by omega) (by omega)
              have hw8 : IntKind.i64.wrap q = q := wrapN _ (by omega) (by omega)
              have hnb := near_bd (x.lo, x.hi) (d := 1) (by omega)
              go_enter Tryz.func40, Tryz.ntmps40
              go_wp2_with (fail)
              refine (HAR.out _).mono ?_
              rintro e w' ⟨rfl, rfl⟩
              go_wp2_with (fail)
              refine (r2near x.lo x.hi (1) _ (by omega) (by omega)).mono ?_
              rintro e w1 ⟨rfl, hB1⟩
              have HN := Lib.hid hnb
              clear hnb
              generalize nearI (x.lo, x.hi) (1) = nn at *
              obtain ⟨n0, n1⟩ := nn
              go_wp2_with (fail)
              refine (const7_ok n0 n1 _).mono ?_
              rintro e w2 ⟨v, rfl, hO, hB2⟩
              have HO := Lib.hid hO
              have HB2 := Lib.hid hB2
              have HB1 := Lib.hid hB1
              clear hO hB1 hB2
              go_wp2_with (fail)
              go_ret
              have hnb := HN.out
              try dsimp only at hnb
              exact FIN.out v (.e0 ⟨1, 0, n0, n1⟩) w1 w2 R (grown_of7 HB1.out) (HBU8.out.grow HB1.out) hRm HB2.out HO.out ⟨rfl, by unfold vnB; simp; exact .inr ⟨by unfold Num; omega, by unfold Num; omega, by omega⟩⟩ H2.out
            · have hw9 : IntKind.i64.wrap (1 + q) = 1 + q := wrapN _ (by omega) (by omega)
              have hw8 : IntKind.i64.wrap q = q := wrapN _ (by omega) (by omega)
              have hnb := near_bd (x.lo, x.hi) (d := 1 + q) (by omega)
              go_enter Tryz.func40, Tryz.ntmps40
              go_wp2_with (fail)
              refine (HAR.out _).mono ?_
              rintro e w' ⟨rfl, rfl⟩
              go_wp2_with (fail)
              refine (r2near x.lo x.hi (1 + q) _ (by omega) (by omega)).mono ?_
              rintro e w1 ⟨rfl, hB1⟩
              have HN := Lib.hid hnb
              clear hnb
              generalize nearI (x.lo, x.hi) (1 + q) = nn at *
              obtain ⟨n0, n1⟩ := nn
              go_wp2_with (fail)
              refine (const7_ok n0 n1 _).mono ?_
              rintro e w2 ⟨v, rfl, hO, hB2⟩
              have HO := Lib.hid hO
              have HB2 := Lib.hid hB2
              have HB1 := Lib.hid hB1
              clear hO hB1 hB2
              go_wp2_with (fail)
              go_ret
              have hnb := HN.out
              try dsimp only at hnb
              exact FIN.out v (.e0 ⟨1, 0, n0, n1⟩) w1 w2 R (grown_of7 HB1.out) (HBU8.out.grow HB1.out) hRm HB2.out HO.out ⟨rfl, by unfold vnB; simp; exact .inr ⟨by unfold Num; omega, by unfold Num; omega, by omega⟩⟩ H2.out
          · have hd2 : ¬ (((d + 1 : Nat) : Int) < 2) := by omega
            have hw7 : IntKind.i64.wrap (((d + 1 : Nat) : Int) - 1) = (d : Int) := by rw [wrapN _ (by omega) (by omega)]; omega
            have h32 : 2 ^ d ≤ 16 := Nat.le_trans (Nat.pow_le_pow_right (by decide) (show d ≤ 4 by omega)) (by decide)
            have H32 := Lib.hid h32
            clear h32
            go_enter Tryz.func40, Tryz.ntmps40
            go_wp2_with (fail)
            refine (HAR.out _).mono ?_
            rintro e w' ⟨rfl, rfl⟩
            go_wp2_with (fail)
            refine (HAR.out _).mono ?_
            rintro e w' ⟨rfl, rfl⟩
            go_wp2_with (fail)
            refine (IH (by omega) (by omega) R W8 hRm HBU8.out).mono ?_
            rintro e w1 ⟨v, rfl, ⟨t, R1, hO, hEV, hlen, hB1, hR1⟩, hg1⟩
            have hl15 : (pre t).length ≤ 1000 := by have := H32.out; omega
            have HNC := Lib.hid (nxc_own hO (by unfold maxLen; omega))
            obtain ⟨pv, cv, rfl⟩ := own_slice hO
            have HO := Lib.hid hO
            have HEV := Lib.hid hEV
            have HLN := Lib.hid hlen
            have HB1 := Lib.hid hB1
            have HG1 := Lib.hid hg1
            clear hO hEV hlen hB1 hg1 z0 z1 z2 z3 b1
            go_wp2_with (fail)
            refine (IH (by omega) (by omega) R1 w1 hR1 HB1.out).mono ?_
            rintro e w3 ⟨v3, rfl, ⟨t3, R3, hO3, hEV3, hlen3, hB3, hR3⟩, hg3⟩
            have hl16 : (pre t3).length ≤ 1000 := by have := H32.out; omega
            have HNC3 := Lib.hid (nxc_own hO3 (by unfold maxLen; omega))
            have hbl1 : bb < w1.heap.size := by
              obtain ⟨p, c, h1, _⟩ := HB1.out.blk
              exact (Array.getElem?_eq_some_iff.1 h1).1
            have hkeep := HO.out.kept hg3 (by
              rcases e2 : (Value.slice pv (pre t).length cv).ownBlock with _ | b
              · exact .inl rfl
              · refine .inr fun e3 => ?_
                have h1 := (HO.out.lt b e2).1
                have h2 := Option.some.inj e3
                have h3 : bb < W8.heap.size := by
                  obtain ⟨p, c, h1, _⟩ := HBU8.out.blk
                  exact (Array.getElem?_eq_some_iff.1 h1).1
                omega)
            have HNC1 := Lib.hid (nxc_own hkeep (by unfold maxLen; omega))
            obtain ⟨pw, cw, rfl⟩ := own_slice hO3
            have HEV3 := Lib.hid hEV3
            have HLN3 := Lib.hid hlen3
            have HB3 := Lib.hid hB3
            have HG3 := Lib.hid (gb_trans HG1.out hg3)
            clear hO3 hEV3 hlen3 hB3 hg3 hkeep
            go_wp2_with (fail)
            refine (binary7_ok 9 _ _ (pre t) (pre t3) _ HNC1.out HNC3.out hl15 hl16).mono ?_
            rintro e w2 ⟨v2, rfl, hO2, hB2⟩
            have HO2 := Lib.hid hO2
            have HB2 := Lib.hid hB2
            clear hO2 hB2
            go_wp2_with (fail)
            go_ret
            exact FIN.out v2 (.e2 ⟨9, 0, 0, 0⟩ t t3) w3 w2 R3 HG3.out HB3.out hR3 HB2.out (by
              have h := HO2.out
              have e9 : (pre (.e2 ⟨9, 0, 0, 0⟩ t t3)).length = 1 + (pre t).length + (pre t3).length := by simp [pre]; omega
              rw [e9]
              exact h) ⟨⟨by decide, by unfold vnB; simp⟩, HEV.out, HEV3.out⟩ (by
              have h1 := HLN.out
              have h0 := HLN3.out
              have h2 := Nat.pow_succ (n := 2) (m := d)
              have e9 : (pre (.e2 ⟨9, 0, 0, 0⟩ t t3)).length = 1 + (pre t).length + (pre t3).length := by simp [pre]; omega
              rw [e9]
              omega)
        · have har := fun w => arity7_ok 10 w (by decide) (by decide)
          simp only [show ¬ ((10 : Int) ≤ 3) by decide, show ¬ ((10 : Int) ≤ 6) by decide, if_true, if_false] at har
          have HAR := Lib.hid har
          clear har
          by_cases hd1 : d = 0
          · subst hd1
            clear IH
            obtain ⟨s, hs⟩ : ∃ s, x.n % 2 = s := ⟨_, rfl⟩
            have hs0 : s = 0 ∨ s = 1 := by omega
            rcases hs0 with rfl | rfl
            · have hw9 : IntKind.i64.wrap (1 + q) = 1 + q := wrapN _ (by omega) (by omega)
              have hw8 : IntKind.i64.wrap q = q := wrapN _ (by omega) (by omega)
              have hnb := near_bd (x.lo, x.hi) (d := 1) (by omega)
              go_enter Tryz.func40, Tryz.ntmps40
              go_wp2_with (fail)
              refine (HAR.out _).mono ?_
              rintro e w' ⟨rfl, rfl⟩
              go_wp2_with (fail)
              refine (r2near x.lo x.hi (1) _ (by omega) (by omega)).mono ?_
              rintro e w1 ⟨rfl, hB1⟩
              have HN := Lib.hid hnb
              clear hnb
              generalize nearI (x.lo, x.hi) (1) = nn at *
              obtain ⟨n0, n1⟩ := nn
              go_wp2_with (fail)
              refine (const7_ok n0 n1 _).mono ?_
              rintro e w2 ⟨v, rfl, hO, hB2⟩
              have HO := Lib.hid hO
              have HB2 := Lib.hid hB2
              have HB1 := Lib.hid hB1
              clear hO hB1 hB2
              go_wp2_with (fail)
              go_ret
              have hnb := HN.out
              try dsimp only at hnb
              exact FIN.out v (.e0 ⟨1, 0, n0, n1⟩) w1 w2 R (grown_of7 HB1.out) (HBU8.out.grow HB1.out) hRm HB2.out HO.out ⟨rfl, by unfold vnB; simp; exact .inr ⟨by unfold Num; omega, by unfold Num; omega, by omega⟩⟩ H2.out
            · have hw9 : IntKind.i64.wrap (1 + q) = 1 + q := wrapN _ (by omega) (by omega)
              have hw8 : IntKind.i64.wrap q = q := wrapN _ (by omega) (by omega)
              have hnb := near_bd (x.lo, x.hi) (d := 1 + q) (by omega)
              go_enter Tryz.func40, Tryz.ntmps40
              go_wp2_with (fail)
              refine (HAR.out _).mono ?_
              rintro e w' ⟨rfl, rfl⟩
              go_wp2_with (fail)
              refine (r2near x.lo x.hi (1 + q) _ (by omega) (by omega)).mono ?_
              rintro e w1 ⟨rfl, hB1⟩
              have HN := Lib.hid hnb
              clear hnb
              generalize nearI (x.lo, x.hi) (1 + q) = nn at *
              obtain ⟨n0, n1⟩ := nn
              go_wp2_with (fail)
              refine (const7_ok n0 n1 _).mono ?_
              rintro e w2 ⟨v, rfl, hO, hB2⟩
              have HO := Lib.hid hO
              have HB2 := Lib.hid hB2
              have HB1 := Lib.hid hB1
              clear hO hB1 hB2
              go_wp2_with (fail)
              go_ret
              have hnb := HN.out
              try dsimp only at hnb
              exact FIN.out v (.e0 ⟨1, 0, n0, n1⟩) w1 w2 R (grown_of7 HB1.out) (HBU8.out.grow HB1.out) hRm HB2.out HO.out ⟨rfl, by unfold vnB; simp; exact .inr ⟨by unfold Num; omega, by unfold Num; omega, by omega⟩⟩ H2.out
          · have hd2 : ¬ (((d + 1 : Nat) : Int) < 2) := by omega
            have hw7 : IntKind.i64.wrap (((d + 1 : Nat) : Int) - 1) = (d : Int) := by rw [wrapN _ (by omega) (by omega)]; omega
            have h32 : 2 ^ d ≤ 16 := Nat.le_trans (Nat.pow_le_pow_right (by decide) (show d ≤ 4 by omega)) (by decide)
            have H32 := Lib.hid h32
            clear h32
            go_enter Tryz.func40, Tryz.ntmps40
            go_wp2_with (fail)
            refine (HAR.out _).mono ?_
            rintro e w' ⟨rfl, rfl⟩
            go_wp2_with (fail)
            refine (HAR.out _).mono ?_
            rintro e w' ⟨rfl, rfl⟩
            go_wp2_with (fail)
            refine (IH (by omega) (by omega) R W8 hRm HBU8.out).mono ?_
            rintro e w1 ⟨v, rfl, ⟨t, R1, hO, hEV, hlen, hB1, hR1⟩, hg1⟩
            have hl15 : (pre t).length ≤ 1000 := by have := H32.out; omega
            have HNC := Lib.hid (nxc_own hO (by unfold maxLen; omega))
            obtain ⟨pv, cv, rfl⟩ := own_slice hO
            have HO := Lib.hid hO
            have HEV := Lib.hid hEV
            have HLN := Lib.hid hlen
            have HB1 := Lib.hid hB1
            have HG1 := Lib.hid hg1
            clear hO hEV hlen hB1 hg1 z0 z1 z2 z3 b1
            go_wp2_with (fail)
            refine (IH (by omega) (by omega) R1 w1 hR1 HB1.out).mono ?_
            rintro e w3 ⟨v3, rfl, ⟨t3, R3, hO3, hEV3, hlen3, hB3, hR3⟩, hg3⟩
            have hl16 : (pre t3).length ≤ 1000 := by have := H32.out; omega
            have HNC3 := Lib.hid (nxc_own hO3 (by unfold maxLen; omega))
            have hbl1 : bb < w1.heap.size := by
              obtain ⟨p, c, h1, _⟩ := HB1.out.blk
              exact (Array.getElem?_eq_some_iff.1 h1).1
            have hkeep := HO.out.kept hg3 (by
              rcases e2 : (Value.slice pv (pre t).length cv).ownBlock with _ | b
              · exact .inl rfl
              · refine .inr fun e3 => ?_
                have h1 := (HO.out.lt b e2).1
                have h2 := Option.some.inj e3
                have h3 : bb < W8.heap.size := by
                  obtain ⟨p, c, h1, _⟩ := HBU8.out.blk
                  exact (Array.getElem?_eq_some_iff.1 h1).1
                omega)
            have HNC1 := Lib.hid (nxc_own hkeep (by unfold maxLen; omega))
            obtain ⟨pw, cw, rfl⟩ := own_slice hO3
            have HEV3 := Lib.hid hEV3
            have HLN3 := Lib.hid hlen3
            have HB3 := Lib.hid hB3
            have HG3 := Lib.hid (gb_trans HG1.out hg3)
            clear hO3 hEV3 hlen3 hB3 hg3 hkeep
            go_wp2_with (fail)
            refine (binary7_ok 10 _ _ (pre t) (pre t3) _ HNC1.out HNC3.out hl15 hl16).mono ?_
            rintro e w2 ⟨v2, rfl, hO2, hB2⟩
            have HO2 := Lib.hid hO2
            have HB2 := Lib.hid hB2
            clear hO2 hB2
            go_wp2_with (fail)
            go_ret
            exact FIN.out v2 (.e2 ⟨10, 0, 0, 0⟩ t t3) w3 w2 R3 HG3.out HB3.out hR3 HB2.out (by
              have h := HO2.out
              have e9 : (pre (.e2 ⟨10, 0, 0, 0⟩ t t3)).length = 1 + (pre t).length + (pre t3).length := by simp [pre]; omega
              rw [e9]
              exact h) ⟨⟨by decide, by unfold vnB; simp⟩, HEV.out, HEV3.out⟩ (by
              have h1 := HLN.out
              have h0 := HLN3.out
              have h2 := Nat.pow_succ (n := 2) (m := d)
              have e9 : (pre (.e2 ⟨10, 0, 0, 0⟩ t t3)).length = 1 + (pre t).length + (pre t3).length := by simp [pre]; omega
              rw [e9]
              omega)
end Go.Proofs.YtbppfohcicepcaaGreat
