/-
  Jh
-/
import Derived.Test.YtbppfohcicepcaaGreatKbu
namespace Go.Proofs.YtbppfohcicepcaaGreat
open Go.ChangeShapes Go.WideShapes Go.ChangeAt Go.RowKit
set_option linter.unusedVariables false
set_option linter.unusedSimpArgs false
set_option maxRecDepth 100000
attribute [local irreducible] Calls
open Go.Maps
variable {Fz : Nat}
def kN (x : Nd) : Lit := .string (keyBytes [.int .i64 x.op, .int .i64 x.n, .int .i64 x.lo, .int .i64 x.hi])
theorem keyN {x : Nd} (h : NW x) : keyOf Tryz.prog 63 (.agg #[.int .i64 x.op, .int .i64 x.n, .int .i64 x.lo, .int .i64 x.hi]) = some (kN x) := by
  obtain ⟨h0, h1, h3, h4⟩ := h
  have w0 := wf64i h0
  have w1 := wf64i h1
  have w3 := wf64i h3
  have w4 := wf64i h4
  have hkt : Tryz.prog.keyType 63 = true := by kernel_rfl
  have hce : Tryz.prog.cellsOf 63 = 4 := by kernel_rfl
  have hcv : Tryz.prog.cellsOf 26 = 2 := by kernel_rfl
  have hc1 : Tryz.prog.cellsOf 3 = 1 := by kernel_rfl
  have hc2 : Tryz.prog.cellsOf 2 = 1 := by kernel_rfl
  have hts : ∃ m, Tryz.prog.types.size = m + 2 := ⟨Tryz.prog.types.size - 2, by have : 1 < Tryz.prog.types.size := of_decide_eq_true (by kernel_rfl); omega⟩
  obtain ⟨m, hm⟩ := hts
  unfold keyOf
  simp only [Tryz.underlying63]
  rw [if_pos (by simp [hkt, Value.formed, Tryz.underlying63, hce]), hm]
  unfold Program.keyLits
  simp only [Tryz.underlying63, Value.cells]
  rw [if_pos ⟨by rw [hce]; rfl, by kernel_rfl⟩]
  simp [List.mapM_cons, hc1, hc2, hcv, hce, Program.keyLits, Tryz.underlying3, Tryz.underlying2, Tryz.underlying26, w0, w1, w3, w4, kN]
  rw [if_pos (by intro i hi; rcases (show i = 0 ∨ i = 1 by omega) with rfl | rfl <;> simp)]
  rfl
theorem lawN : Keyed Tryz.prog 63 := Keyed.of_law (deep_law (m := 3) (by omega) (by kernel_rfl) (by kernel_rfl) (by kernel_rfl))
theorem kN_inj {x y : Nd} (hx : NW x) (hy : NW y) (h : kN x = kN y) : x = y := by
  have e := lawN.inj (keyN hx) (h ▸ keyN hy)
  obtain ⟨a, b, d, f⟩ := x
  obtain ⟨a', b', d', f'⟩ := y
  simp at e
  simp [e]
theorem nd_eql (x y : Nd) (wx : NW x) (wy : NW y) (w : World) : (binOp BinOp.eql 63 (.agg #[.int .i64 x.op, .int .i64 x.n, .int .i64 x.lo, .int .i64 x.hi]) (.agg #[.int .i64 y.op, .int .i64 y.n, .int .i64 y.lo, .int .i64 y.hi])).run Tryz.prog w = .ok (.bool (decide (x = y))) w := by
  obtain ⟨r, hr, hiff⟩ := run_equal_deep (P := Tryz.prog) w (m := 3) (by omega) (k := 63) (by kernel_rfl) (by kernel_rfl) (keyN wx) (keyN wy)
  have e : r = decide (x = y) := by
    by_cases h : x = y
    · subst h; rw [decide_eq_true rfl]; exact hiff.2 rfl
    · rw [decide_eq_false h]
      cases r with
      | false => rfl
      | true => exact absurd (kN_inj wx wy (hiff.1 rfl)) h
  subst e
  simp [binOp, go_sem, hr]
theorem nw_vn {N : Int} {x : Nd} (hN : N ≤ 1000) (h : vnB N x = true) : NW x := by
  unfold vnB at h
  unfold NW W64
  obtain ⟨op, n, lo, hi⟩ := x
  dsimp only at h ⊢
  split at h
  · simp at h
    obtain ⟨rfl, h2⟩ := h
    have := h2.bd
    omega
  split at h
  · simp at h
    omega
  split at h
  · simp at h
    omega
  · cases h
/-- The derivative of a root with operands and their derivatives. -/
def dE (v x : Nd) : List (Ex × Ex) → Ex
  | [] => if x = v then pt 65536 else pt 0
  | [p] => rl1 x.op p
  | p :: q :: _ => rl2 x.op p q
/-- What the closure of derivative finds: the rules, the variable. -/
structure DvS (rb vb bm : Nat) (x : Nd) (W : World) : Prop where
  rul : Boxed W rb 93 (.map (some bm))
  map : FpJ bm 7 ruleM W
  var : NdC W vb x
theorem DvS.grow {rb vb bm : Nat} {x : Nd} {W W' : World} (h : DvS rb vb bm x W) (hB : Below W.heap.size W W') : DvS rb vb bm x W' :=
  ⟨(hB.block _ (Array.getElem?_eq_some_iff.1 h.rul).1).trans h.rul, h.map.grow hB, h.var.grow hB⟩
/-- A store to a block of two nil pointers leaves terms alone. -/
theorem tm_oth {w w' : World} {X : Nat} {t : TypeId} (hX : w.heap[X]? = some (.cells #[.pointer none, .pointer none] t (0, 0))) (hO : Oth X w w') : ∀ {T : Ex} {v : Value}, TmP Fz w v T → TmP Fz w' v T := by
  have hb : ∀ {b : Nat} {x : Nd} {S : Value}, TmC w b x S → TmC w' b x S := fun {b x S} h => by
    refine (hO.blk _ h.lt ?_).trans h
    rintro rfl
    have h2 := hX.symm.trans h
    simp at h2
  have hc : ∀ {b o : Nat} {T : Ex} {u : Value}, w.cell? ⟨b, o, none⟩ = some u → TmP Fz w u T → w'.cell? ⟨b, o, none⟩ = some u := fun {b o T u} h hu => by
    have hne : b ≠ X := by
      rintro rfl
      obtain ⟨bu, Su, rfl, _⟩ := hu.root
      simp only [World.cell?, hX] at h
      match o, h with
      | 0, h => simp at h
      | 1, h => simp at h
      | o + 2, h => simp at h
    exact (World.cell?_of_block (a := ⟨b, o, none⟩) (hO.blk _ (cell_lt h) hne)).trans h
  intro T
  induction T with
  | e0 x => exact fun ⟨b, p, c, e, h1, hf⟩ => ⟨b, p, c, e, hb h1, hf⟩
  | e1 x a ih => exact fun ⟨b, r, o, c, u, e, h1, h2, h3, hf⟩ => ⟨b, r, o, c, u, e, hb h1, hc h2 h3, ih h3, hf⟩
  | e2 x a a' ih ih' => exact fun ⟨b, r, o, c, u, u', e, h1, h2, h2', h3, h3', hf⟩ => ⟨b, r, o, c, u, u', e, hb h1, hc h2 h3, hc h2' h3', ih h3, ih' h3', hf⟩
theorem ruleM_4 : ruleM 4 = some 103 := by have := ruleM_at; simp [this]
theorem ruleM_7 : ruleM 7 = some 105 := by have := ruleM_at; simp [this]
theorem ruleM_8 : ruleM 8 = some 106 := by have := ruleM_at; simp [this]
theorem ruleM_9 : ruleM 9 = some 107 := by have := ruleM_at; simp [this]
theorem ruleM_10 : ruleM 10 = some 108 := by have := ruleM_at; simp [this]
theorem ruleM_5 : ruleM 5 = some 109 := by have := ruleM_at; simp [this]
theorem ruleM_6 : ruleM 6 = some 111 := by have := ruleM_at; simp [this]
set_option maxHeartbeats 16000000 in
theorem visit0_op (N : Int) (rb vb bm : Nat) (y : Nd) (n lo hi : Int) (c : Nat) (W : World) (p0 : Option Addr) (op : Int) (hop : arI op = 0) (wx : NW ⟨op, n, lo, hi⟩) (wy : NW y) (hF : Fz ≤ W.heap.size) (hD : DvS rb vb bm y W) :
    Calls Tryz.prog 78 #[.agg #[.int .i64 op, .int .i64 n, .int .i64 lo, .int .i64 hi], .slice p0 0 c, .pointer (some ⟨rb, 0, none⟩), .pointer (some ⟨vb, 0, none⟩)] W fun en w' => ∃ u u', en = .returned (.agg #[u, u']) ∧ TmP Fz w' u (sE ⟨op, n, lo, hi⟩ []) ∧ TmP Fz w' u' (dE y ⟨op, n, lo, hi⟩ []) ∧ Below W.heap.size W w' := by
  obtain ⟨i0, hi0, hz0, hz1, hz2⟩ := info_parts info_pt
  have hE : Below W.heap.size W ((W.alloc (.cells #[.int .i64 op, .int .i64 n, .int .i64 lo, .int .i64 hi] 63)).alloc (.cells #[.pointer none, .pointer none] 96)) := allocs_below [.cells #[.int .i64 op, .int .i64 n, .int .i64 lo, .int .i64 hi] 63, .cells #[.pointer none, .pointer none] 96] W
  have hN : Blk ((W.alloc (.cells #[.int .i64 op, .int .i64 n, .int .i64 lo, .int .i64 hi] 63)).alloc (.cells #[.pointer none, .pointer none] 96)) W.heap.size (.cells #[.int .i64 op, .int .i64 n, .int .i64 lo, .int .i64 hi] 63) := allocs_at [.cells #[.int .i64 op, .int .i64 n, .int .i64 lo, .int .i64 hi] 63, .cells #[.pointer none, .pointer none] 96] W 0 _ rfl
  have hR : Blk ((W.alloc (.cells #[.int .i64 op, .int .i64 n, .int .i64 lo, .int .i64 hi] 63)).alloc (.cells #[.pointer none, .pointer none] 96)) (W.heap.size + 1) (.cells #[.pointer none, .pointer none] 96) := allocs_at [.cells #[.int .i64 op, .int .i64 n, .int .i64 lo, .int .i64 hi] 63, .cells #[.pointer none, .pointer none] 96] W 1 _ rfl
  have hEs : (((W.alloc (.cells #[.int .i64 op, .int .i64 n, .int .i64 lo, .int .i64 hi] 63)).alloc (.cells #[.pointer none, .pointer none] 96))).heap.size = W.heap.size + 1 + 1 := by rw [alloc_sz, alloc_sz]
  have HD := Lib.hid (hD.grow hE)
  obtain ⟨E, hEE⟩ : ∃ E, ((W.alloc (.cells #[.int .i64 op, .int .i64 n, .int .i64 lo, .int .i64 hi] 63)).alloc (.cells #[.pointer none, .pointer none] 96)) = E := ⟨_, rfl⟩
  rw [hEE] at hE hN hR hEs HD
  have HE := Lib.hid hE
  have HEE := Lib.hid hEE
  have HES := Lib.hid hEs
  have HF := Lib.hid hF
  have HN := Lib.hid hN
  have HR := Lib.hid hR
  have HA0 := Lib.hid hop
  have WX := Lib.hid wx
  have WY := Lib.hid wy
  clear hop wx wy
  have HW0 := Lib.hid (show OwnT Fz E.heap.size E (.slice none 0 0) [] [] from ⟨World.ownsRow_nil _ _ _ _, fun k u x h => by simp at h⟩)
  generalize hres1 : sE ⟨op, n, lo, hi⟩ [] = res1
  generalize hres2 : dE y ⟨op, n, lo, hi⟩ [] = res2
  have R1 := Lib.hid hres1
  have R2 := Lib.hid hres2
  clear hE hEE hD hF hEs hres1 hres2 hN hR
  go_enter Tryz.func78, Tryz.ntmps78
  go_wp2_with (fail)
  rw [HEE.out]
  go_loopw [7, 13] (fun v7 i wr => ∃ (j : Nat) (us : List Value), i = .int .i64 j ∧ j ≤ 0 ∧ Hid (OwnT Fz E.heap.size wr v7 (([] : List Ex).take j) us) ∧ Hid (Below E.heap.size E wr)) (fun v7 i _ => 0 - (intOf i).toNat)
  case atStart => exact ⟨0, [], rfl, Nat.zero_le _, HW0, Lib.hid (Below.refl _ _)⟩
  case round =>
    clear HW0
    obtain ⟨j, us, rfl, hj, HO, HB⟩ := hrel
    obtain ⟨p7, c7, rfl⟩ := own_slice HO.out.row
    have htl : (([] : List Ex).take j).length = j := by rw [List.length_take]; simp; omega
    rw [htl] at HO ⊢
    have hbs := HB.out.size
    obtain rfl : j = 0 := by omega
    have hlx := HO.out.lx (by simp [maxLen])
    have hblk := HO.out.blk rfl
    have htk : ([] : List Ex).take 0 = [] := rfl
    rw [htk] at hlx
    clear  htk htl
    have HLX := Lib.hid hlx
    have HBK := Lib.hid hblk
    have hfz : Fz ≤ wr.heap.size := by have h1 := HF.out; have h2 := HES.out; omega
    have HFZ := Lib.hid hfz
    clear hlx hblk hfz
    go_wp2_with (fail)
    refine (number_ok (Fz := Fz) 0 _ (by decide) HFZ.out).mono ?_
    rintro en w3 ⟨z0, rfl, hz0', hB3⟩
    obtain ⟨bz, Sz, rfl, _⟩ := hz0'.root
    have hb3 := below_then HB.out hB3
    have hn3 := HN.out.grow hb3
    have HN3 := Lib.hid hn3
    have n0 := fun g : Grown w3 => heapN_cellj (HN3.out.grow g.h) (k := 0) (u := .int .i64 op) rfl
    have n1 := fun g : Grown w3 => heapN_cellj (HN3.out.grow g.h) (k := 1) (u := .int .i64 n) rfl
    have n2 := fun g : Grown w3 => heapN_cellj (HN3.out.grow g.h) (k := 2) (u := .int .i64 lo) rfl
    have n3 := fun g : Grown w3 => heapN_cellj (HN3.out.grow g.h) (k := 3) (u := .int .i64 hi) rfl
    have HZ0 := Lib.hid hz0'
    have HB3 := Lib.hid hb3
    have HL3 := Lib.hid (Lx.grow grows_tm HLX.out hB3)
    have HK3 := Lib.hid (fun (a : Addr) (ha : p7 = some a) => show Fz ≤ a.block from by have h0 := HBK.out a ha; have h1 := HF.out; have h2 := HES.out; omega)
    clear hz0' hb3 hn3 hB3 HO HB HLX HBK
    have hdv := HD.out.grow HB3.out
    have m0 := hdv.var.c0
    have m1 := hdv.var.c1
    have m2 := hdv.var.c2
    have m3 := hdv.var.c3
    have m0' := n0 ⟨w3, Below.refl _ _⟩
    have m1' := n1 ⟨w3, Below.refl _ _⟩
    have m2' := n2 ⟨w3, Below.refl _ _⟩
    have m3' := n3 ⟨w3, Below.refl _ _⟩
    dsimp only at m0' m1' m2' m3'
    obtain ⟨yo, yn, yl, yh⟩ := y
    dsimp only at m0 m1 m2 m3
    have hcmp := nd_eql ⟨op, n, lo, hi⟩ ⟨yo, yn, yl, yh⟩ WX.out WY.out w3
    dsimp only at hcmp
    by_cases hxy : (⟨op, n, lo, hi⟩ : Nd) = ⟨yo, yn, yl, yh⟩
    · rw [decide_eq_true hxy] at hcmp
      have HR2 := Lib.hid (show res2 = pt 65536 from by have := R2.out; unfold dE at this; rw [if_pos hxy] at this; exact this.symm)
      cases hxy
      clear hdv hcmp
      go_wp2_with (fail)
      refine (number_ok (Fz := Fz) 65536 _ (by decide) HZ0.out.fz).mono ?_
      rintro en w5 ⟨z5, rfl, hz5, hB5⟩
      obtain ⟨b5, S5, rfl, _⟩ := hz5.root
      rw [← HR2.out] at hz5
      have HZ5 := Lib.hid hz5
      have HB5 := Lib.hid hB5
      clear hz5 hB5 HZ0 HR2 m0 m1 m2 m3 m0' m1' m2' m3'
      have a0 := n0 ⟨w5, HB5.out⟩
      have a1 := n1 ⟨w5, HB5.out⟩
      have a2 := n2 ⟨w5, HB5.out⟩
      have a3 := n3 ⟨w5, HB5.out⟩
      dsimp only at a0 a1 a2 a3
      clear n0 n1 n2 n3
      go_wp2_with (fail)
      refine (simpL_ok (Fz := Fz) N op n lo hi p7 c7 [] w5 (Lx.grow grows_tm HL3.out (HB5.out)) HK3.out (HZ5.out.fz) HA0.out (by simp)).mono ?_
      rintro en w7 ⟨z7, rfl, hz7, hB7⟩
      obtain ⟨b7, S7, rfl, _⟩ := hz7.root
      have hb7 := below_then HB3.out (below_then (HB5.out) hB7)
      have hr7 := HR.out.grow hb7
      have q0 := heapN_cellj hr7 (k := 0) (u := .pointer none) rfl
      have q1 := heapN_cellj hr7 (k := 1) (u := .pointer none) rfl
      have y0 : w7.frozen? ⟨W.heap.size + 1, 0, none⟩ = false := by simp [World.frozen?, show w7.heap[W.heap.size + 1]? = _ from hr7]
      have y1 : w7.frozen? ⟨W.heap.size + 1, 1, none⟩ = false := by simp [World.frozen?, show w7.heap[W.heap.size + 1]? = _ from hr7]
      rw [R1.out] at hz7
      obtain ⟨w8, e8, hI8, hO8⟩ := set2 hr7 (.pointer (some ⟨b7, 0, none⟩)) (.pointer (some ⟨b5, 0, none⟩))
      have x0 := heapN_cellj hI8 (k := 0) (u := .pointer (some ⟨b7, 0, none⟩)) rfl
      have x1 := heapN_cellj hI8 (k := 1) (u := .pointer (some ⟨b5, 0, none⟩)) rfl
      have hb8 : Below W.heap.size W w8 := hO8.bel (below_then HE.out hb7) (by omega) (by have := HE.out.size; have := hb7.size; omega)
      have HK1 := Lib.hid (tm_oth hr7 hO8 hz7)
      have HK2 := Lib.hid (tm_oth hr7 hO8 (HZ5.out.grow hB7))
      have HB8 := Lib.hid hb8
      rw [← e8] at x0 x1
      have HE8 := Lib.hid e8
      clear a0 a1 a2 a3 hz7 hB7 hb7 hr7 e8 hI8 hO8 hb8
      go_wp2_with (fail)
      refine bodyPost_ret (v := .agg #[.pointer (some ⟨b7, 0, none⟩), .pointer (some ⟨b5, 0, none⟩)]) (by simp [results, Tryz.results78, go_sem, x0, x1]) rfl ?_
      rw [HE8.out]
      exact ⟨_, _, rfl, HK1.out, HK2.out, HB8.out⟩
    · have HR2 := Lib.hid (show res2 = pt 0 from by have := R2.out; unfold dE at this; rw [if_neg hxy] at this; exact this.symm)
      have hz5 := HZ0.out
      rw [← HR2.out] at hz5
      have HZ5 := Lib.hid hz5
      clear hdv hz5 HZ0 HR2 hcmp
      by_cases e0 : op = yo
      · subst e0
        by_cases e1 : n = yn
        · subst e1
          by_cases e2 : lo = yl
          · subst e2
            have e3 : ¬ hi = yh := fun e => hxy (by rw [e])
            clear hxy
            have a0 := n0 ⟨w3, Below.refl _ _⟩
            have a1 := n1 ⟨w3, Below.refl _ _⟩
            have a2 := n2 ⟨w3, Below.refl _ _⟩
            have a3 := n3 ⟨w3, Below.refl _ _⟩
            dsimp only at a0 a1 a2 a3
            clear n0 n1 n2 n3
            go_wp2_with (fail)
            refine (simpL_ok (Fz := Fz) N op n lo hi p7 c7 [] w3 (Lx.grow grows_tm HL3.out (Below.refl _ _)) HK3.out (HZ5.out.fz) HA0.out (by simp)).mono ?_
            rintro en w7 ⟨z7, rfl, hz7, hB7⟩
            obtain ⟨b7, S7, rfl, _⟩ := hz7.root
            have hb7 := below_then HB3.out (below_then (Below.refl _ _) hB7)
            have hr7 := HR.out.grow hb7
            have q0 := heapN_cellj hr7 (k := 0) (u := .pointer none) rfl
            have q1 := heapN_cellj hr7 (k := 1) (u := .pointer none) rfl
            have y0 : w7.frozen? ⟨W.heap.size + 1, 0, none⟩ = false := by simp [World.frozen?, show w7.heap[W.heap.size + 1]? = _ from hr7]
            have y1 : w7.frozen? ⟨W.heap.size + 1, 1, none⟩ = false := by simp [World.frozen?, show w7.heap[W.heap.size + 1]? = _ from hr7]
            rw [R1.out] at hz7
            obtain ⟨w8, e8, hI8, hO8⟩ := set2 hr7 (.pointer (some ⟨b7, 0, none⟩)) (.pointer (some ⟨bz, 0, none⟩))
            have x0 := heapN_cellj hI8 (k := 0) (u := .pointer (some ⟨b7, 0, none⟩)) rfl
            have x1 := heapN_cellj hI8 (k := 1) (u := .pointer (some ⟨bz, 0, none⟩)) rfl
            have hb8 : Below W.heap.size W w8 := hO8.bel (below_then HE.out hb7) (by omega) (by have := HE.out.size; have := hb7.size; omega)
            have HK1 := Lib.hid (tm_oth hr7 hO8 hz7)
            have HK2 := Lib.hid (tm_oth hr7 hO8 (HZ5.out.grow hB7))
            have HB8 := Lib.hid hb8
            rw [← e8] at x0 x1
            have HE8 := Lib.hid e8
            clear a0 a1 a2 a3 hz7 hB7 hb7 hr7 e8 hI8 hO8 hb8
            go_wp2_with (fail)
            refine bodyPost_ret (v := .agg #[.pointer (some ⟨b7, 0, none⟩), .pointer (some ⟨bz, 0, none⟩)]) (by simp [results, Tryz.results78, go_sem, x0, x1]) rfl ?_
            rw [HE8.out]
            exact ⟨_, _, rfl, HK1.out, HK2.out, HB8.out⟩
          · clear hxy
            have a0 := n0 ⟨w3, Below.refl _ _⟩
            have a1 := n1 ⟨w3, Below.refl _ _⟩
            have a2 := n2 ⟨w3, Below.refl _ _⟩
            have a3 := n3 ⟨w3, Below.refl _ _⟩
            dsimp only at a0 a1 a2 a3
            clear n0 n1 n2 n3
            go_wp2_with (fail)
            refine (simpL_ok (Fz := Fz) N op n lo hi p7 c7 [] w3 (Lx.grow grows_tm HL3.out (Below.refl _ _)) HK3.out (HZ5.out.fz) HA0.out (by simp)).mono ?_
            rintro en w7 ⟨z7, rfl, hz7, hB7⟩
            obtain ⟨b7, S7, rfl, _⟩ := hz7.root
            have hb7 := below_then HB3.out (below_then (Below.refl _ _) hB7)
            have hr7 := HR.out.grow hb7
            have q0 := heapN_cellj hr7 (k := 0) (u := .pointer none) rfl
            have q1 := heapN_cellj hr7 (k := 1) (u := .pointer none) rfl
            have y0 : w7.frozen? ⟨W.heap.size + 1, 0, none⟩ = false := by simp [World.frozen?, show w7.heap[W.heap.size + 1]? = _ from hr7]
            have y1 : w7.frozen? ⟨W.heap.size + 1, 1, none⟩ = false := by simp [World.frozen?, show w7.heap[W.heap.size + 1]? = _ from hr7]
            rw [R1.out] at hz7
            obtain ⟨w8, e8, hI8, hO8⟩ := set2 hr7 (.pointer (some ⟨b7, 0, none⟩)) (.pointer (some ⟨bz, 0, none⟩))
            have x0 := heapN_cellj hI8 (k := 0) (u := .pointer (some ⟨b7, 0, none⟩)) rfl
            have x1 := heapN_cellj hI8 (k := 1) (u := .pointer (some ⟨bz, 0, none⟩)) rfl
            have hb8 : Below W.heap.size W w8 := hO8.bel (below_then HE.out hb7) (by omega) (by have := HE.out.size; have := hb7.size; omega)
            have HK1 := Lib.hid (tm_oth hr7 hO8 hz7)
            have HK2 := Lib.hid (tm_oth hr7 hO8 (HZ5.out.grow hB7))
            have HB8 := Lib.hid hb8
            rw [← e8] at x0 x1
            have HE8 := Lib.hid e8
            clear a0 a1 a2 a3 hz7 hB7 hb7 hr7 e8 hI8 hO8 hb8
            go_wp2_with (fail)
            refine bodyPost_ret (v := .agg #[.pointer (some ⟨b7, 0, none⟩), .pointer (some ⟨bz, 0, none⟩)]) (by simp [results, Tryz.results78, go_sem, x0, x1]) rfl ?_
            rw [HE8.out]
            exact ⟨_, _, rfl, HK1.out, HK2.out, HB8.out⟩
        · clear hxy
          have a0 := n0 ⟨w3, Below.refl _ _⟩
          have a1 := n1 ⟨w3, Below.refl _ _⟩
          have a2 := n2 ⟨w3, Below.refl _ _⟩
          have a3 := n3 ⟨w3, Below.refl _ _⟩
          dsimp only at a0 a1 a2 a3
          clear n0 n1 n2 n3
          go_wp2_with (fail)
          refine (simpL_ok (Fz := Fz) N op n lo hi p7 c7 [] w3 (Lx.grow grows_tm HL3.out (Below.refl _ _)) HK3.out (HZ5.out.fz) HA0.out (by simp)).mono ?_
          rintro en w7 ⟨z7, rfl, hz7, hB7⟩
          obtain ⟨b7, S7, rfl, _⟩ := hz7.root
          have hb7 := below_then HB3.out (below_then (Below.refl _ _) hB7)
          have hr7 := HR.out.grow hb7
          have q0 := heapN_cellj hr7 (k := 0) (u := .pointer none) rfl
          have q1 := heapN_cellj hr7 (k := 1) (u := .pointer none) rfl
          have y0 : w7.frozen? ⟨W.heap.size + 1, 0, none⟩ = false := by simp [World.frozen?, show w7.heap[W.heap.size + 1]? = _ from hr7]
          have y1 : w7.frozen? ⟨W.heap.size + 1, 1, none⟩ = false := by simp [World.frozen?, show w7.heap[W.heap.size + 1]? = _ from hr7]
          rw [R1.out] at hz7
          obtain ⟨w8, e8, hI8, hO8⟩ := set2 hr7 (.pointer (some ⟨b7, 0, none⟩)) (.pointer (some ⟨bz, 0, none⟩))
          have x0 := heapN_cellj hI8 (k := 0) (u := .pointer (some ⟨b7, 0, none⟩)) rfl
          have x1 := heapN_cellj hI8 (k := 1) (u := .pointer (some ⟨bz, 0, none⟩)) rfl
          have hb8 : Below W.heap.size W w8 := hO8.bel (below_then HE.out hb7) (by omega) (by have := HE.out.size; have := hb7.size; omega)
          have HK1 := Lib.hid (tm_oth hr7 hO8 hz7)
          have HK2 := Lib.hid (tm_oth hr7 hO8 (HZ5.out.grow hB7))
          have HB8 := Lib.hid hb8
          rw [← e8] at x0 x1
          have HE8 := Lib.hid e8
          clear a0 a1 a2 a3 hz7 hB7 hb7 hr7 e8 hI8 hO8 hb8
          go_wp2_with (fail)
          refine bodyPost_ret (v := .agg #[.pointer (some ⟨b7, 0, none⟩), .pointer (some ⟨bz, 0, none⟩)]) (by simp [results, Tryz.results78, go_sem, x0, x1]) rfl ?_
          rw [HE8.out]
          exact ⟨_, _, rfl, HK1.out, HK2.out, HB8.out⟩
      · clear hxy
        have a0 := n0 ⟨w3, Below.refl _ _⟩
        have a1 := n1 ⟨w3, Below.refl _ _⟩
        have a2 := n2 ⟨w3, Below.refl _ _⟩
        have a3 := n3 ⟨w3, Below.refl _ _⟩
        dsimp only at a0 a1 a2 a3
        clear n0 n1 n2 n3
        go_wp2_with (fail)
        refine (simpL_ok (Fz := Fz) N op n lo hi p7 c7 [] w3 (Lx.grow grows_tm HL3.out (Below.refl _ _)) HK3.out (HZ5.out.fz) HA0.out (by simp)).mono ?_
        rintro en w7 ⟨z7, rfl, hz7, hB7⟩
        obtain ⟨b7, S7, rfl, _⟩ := hz7.root
        have hb7 := below_then HB3.out (below_then (Below.refl _ _) hB7)
        have hr7 := HR.out.grow hb7
        have q0 := heapN_cellj hr7 (k := 0) (u := .pointer none) rfl
        have q1 := heapN_cellj hr7 (k := 1) (u := .pointer none) rfl
        have y0 : w7.frozen? ⟨W.heap.size + 1, 0, none⟩ = false := by simp [World.frozen?, show w7.heap[W.heap.size + 1]? = _ from hr7]
        have y1 : w7.frozen? ⟨W.heap.size + 1, 1, none⟩ = false := by simp [World.frozen?, show w7.heap[W.heap.size + 1]? = _ from hr7]
        rw [R1.out] at hz7
        obtain ⟨w8, e8, hI8, hO8⟩ := set2 hr7 (.pointer (some ⟨b7, 0, none⟩)) (.pointer (some ⟨bz, 0, none⟩))
        have x0 := heapN_cellj hI8 (k := 0) (u := .pointer (some ⟨b7, 0, none⟩)) rfl
        have x1 := heapN_cellj hI8 (k := 1) (u := .pointer (some ⟨bz, 0, none⟩)) rfl
        have hb8 : Below W.heap.size W w8 := hO8.bel (below_then HE.out hb7) (by omega) (by have := HE.out.size; have := hb7.size; omega)
        have HK1 := Lib.hid (tm_oth hr7 hO8 hz7)
        have HK2 := Lib.hid (tm_oth hr7 hO8 (HZ5.out.grow hB7))
        have HB8 := Lib.hid hb8
        rw [← e8] at x0 x1
        have HE8 := Lib.hid e8
        clear a0 a1 a2 a3 hz7 hB7 hb7 hr7 e8 hI8 hO8 hb8
        go_wp2_with (fail)
        refine bodyPost_ret (v := .agg #[.pointer (some ⟨b7, 0, none⟩), .pointer (some ⟨bz, 0, none⟩)]) (by simp [results, Tryz.results78, go_sem, x0, x1]) rfl ?_
        rw [HE8.out]
        exact ⟨_, _, rfl, HK1.out, HK2.out, HB8.out⟩
set_option maxHeartbeats 16000000 in
theorem visit1_4 (N : Int) (rb vb bm : Nat) (y : Nd) (n lo hi : Int) (c : Nat) (W : World) (r o : Nat) (ua za : Value) (a a' : Ex) (ha : W.cell? ⟨r, o, none⟩ = some ua) (ga : W.cell? ⟨r, o + 1, none⟩ = some za) (ta : TmP Fz W ua a) (sa : TmP Fz W za a') (ea : EV N a) (da : EV N a') (hD : DvS rb vb bm y W) :
    Calls Tryz.prog 78 #[.agg #[.int .i64 4, .int .i64 n, .int .i64 lo, .int .i64 hi], .slice (some ⟨r, o, none⟩) 1 c, .pointer (some ⟨rb, 0, none⟩), .pointer (some ⟨vb, 0, none⟩)] W fun en w' => ∃ u u', en = .returned (.agg #[u, u']) ∧ TmP Fz w' u (sE ⟨4, n, lo, hi⟩ [a]) ∧ TmP Fz w' u' (dE y ⟨4, n, lo, hi⟩ [(a, a')]) ∧ Below W.heap.size W w' := by
  obtain ⟨i0, hi0, hz0, hz1, hz2⟩ := info_parts info_pt
  obtain ⟨ba, Sa, rfl, _⟩ := ta.root
  obtain ⟨ca, Ua, rfl, _⟩ := sa.root
  have hF := ta.fz
  have hE : Below W.heap.size W ((W.alloc (.cells #[.int .i64 4, .int .i64 n, .int .i64 lo, .int .i64 hi] 63)).alloc (.cells #[.pointer none, .pointer none] 96)) := allocs_below [.cells #[.int .i64 4, .int .i64 n, .int .i64 lo, .int .i64 hi] 63, .cells #[.pointer none, .pointer none] 96] W
  have hN : Blk ((W.alloc (.cells #[.int .i64 4, .int .i64 n, .int .i64 lo, .int .i64 hi] 63)).alloc (.cells #[.pointer none, .pointer none] 96)) W.heap.size (.cells #[.int .i64 4, .int .i64 n, .int .i64 lo, .int .i64 hi] 63) := allocs_at [.cells #[.int .i64 4, .int .i64 n, .int .i64 lo, .int .i64 hi] 63, .cells #[.pointer none, .pointer none] 96] W 0 _ rfl
  have hR : Blk ((W.alloc (.cells #[.int .i64 4, .int .i64 n, .int .i64 lo, .int .i64 hi] 63)).alloc (.cells #[.pointer none, .pointer none] 96)) (W.heap.size + 1) (.cells #[.pointer none, .pointer none] 96) := allocs_at [.cells #[.int .i64 4, .int .i64 n, .int .i64 lo, .int .i64 hi] 63, .cells #[.pointer none, .pointer none] 96] W 1 _ rfl
  have hEs : (((W.alloc (.cells #[.int .i64 4, .int .i64 n, .int .i64 lo, .int .i64 hi] 63)).alloc (.cells #[.pointer none, .pointer none] 96))).heap.size = W.heap.size + 1 + 1 := by rw [alloc_sz, alloc_sz]
  have qa := cell_grow ha hE
  have ra := cell_grow ga hE
  have Ta := Lib.hid (ta.grow hE)
  have Va := Lib.hid (sa.grow hE)
  have Xa := Lib.hid ea
  have Ya := Lib.hid da
  clear ha ga ta sa ea da
  have HD := Lib.hid (hD.grow hE)
  obtain ⟨E, hEE⟩ : ∃ E, ((W.alloc (.cells #[.int .i64 4, .int .i64 n, .int .i64 lo, .int .i64 hi] 63)).alloc (.cells #[.pointer none, .pointer none] 96)) = E := ⟨_, rfl⟩
  rw [hEE] at hE hN hR hEs HD qa ra Ta Va
  have HE := Lib.hid hE
  have HEE := Lib.hid hEE
  have HES := Lib.hid hEs
  have HF := Lib.hid hF
  have HN := Lib.hid hN
  have HR := Lib.hid hR
  have Qa := Lib.hid qa
  have Ra := Lib.hid ra
  clear qa ra
  have HW0 := Lib.hid (show OwnT Fz E.heap.size E (.slice none 0 0) [] [] from ⟨World.ownsRow_nil _ _ _ _, fun k u x h => by simp at h⟩)
  generalize hres1 : sE ⟨4, n, lo, hi⟩ [a] = res1
  generalize hres2 : dE y ⟨4, n, lo, hi⟩ [(a, a')] = res2
  have R1 := Lib.hid hres1
  have R2 := Lib.hid hres2
  clear hE hEE hD hF hEs hres1 hres2 hN hR
  go_enter Tryz.func78, Tryz.ntmps78
  go_wp2_with (fail)
  rw [HEE.out]
  go_loopw [7, 13] (fun v7 i wr => ∃ (j : Nat) (us : List Value), i = .int .i64 j ∧ j ≤ 1 ∧ Hid (OwnT Fz E.heap.size wr v7 (([a] : List Ex).take j) us) ∧ Hid (Below E.heap.size E wr)) (fun v7 i _ => 1 - (intOf i).toNat)
  case atStart => exact ⟨0, [], rfl, Nat.zero_le _, HW0, Lib.hid (Below.refl _ _)⟩
  case round =>
    clear HW0
    obtain ⟨j, us, rfl, hj, HO, HB⟩ := hrel
    obtain ⟨p7, c7, rfl⟩ := own_slice HO.out.row
    have htl : (([a] : List Ex).take j).length = j := by rw [List.length_take]; simp; omega
    rw [htl] at HO ⊢
    have hbs := HB.out.size
    by_cases h0 : j = 0
    · subst h0
      have r0 : wr.cell? ⟨r, o, none⟩ = some (.pointer (some ⟨ba, 0, none⟩)) := cell_grow Qa.out HB.out
      have r1 : wr.cell? ⟨r, o + 1, none⟩ = some (.pointer (some ⟨ca, 0, none⟩)) := cell_grow Ra.out HB.out
      have hA : Below wr.heap.size wr ((wr.alloc (.cells #[.pointer (some ⟨ba, 0, none⟩), .pointer (some ⟨ca, 0, none⟩)] 96)).alloc (.cells #[.pointer (some ⟨ba, 0, none⟩)] 69)) := ((Below.refl _ _).alloc (Nat.le_refl _) _).alloc (by rw [alloc_sz]; omega) _
      have HO9 := Lib.hid (HO.out.grow hA)
      have HB9 := Lib.hid (below_then HB.out hA)
      have hzk : ∀ W', ((wr.alloc (.cells #[.pointer (some ⟨ba, 0, none⟩), .pointer (some ⟨ca, 0, none⟩)] 96)).alloc (.cells #[.pointer (some ⟨ba, 0, none⟩)] 69)).grownBy W' (Value.slice p7 0 c7).ownBlock → TmP Fz W' (.pointer (some ⟨ba, 0, none⟩)) a := fun W' h => Ta.out.grow (Below.grown HB9.out h HB9.out.size (fun q hq => (HO9.out.row.lt q hq).1))
      have HZK := Lib.hid hzk
      clear hA hzk HO HB
      go_wp2_with (at_builtin; refine wpList_append_own_at _ rfl (.tmp 17) (.tmp 20) 86 rfl E.heap.size 69 i0 (.pointer none) 1 8 Tryz.underlying86 hi0 hz0 hz1 hz2 rfl (by decide) (.slice p7 0 c7) 0 _ rfl (by have := HO9.out.row; exact this) ⟨wr.heap.size + 1, 0, none⟩ 1 1 [.pointer (some ⟨ba, 0, none⟩)] rfl rfl (by have := one_newN (wr.alloc (.cells #[.pointer (some ⟨ba, 0, none⟩), .pointer (some ⟨ca, 0, none⟩)] 96)) (.pointer (some ⟨ba, 0, none⟩)) 69; rw [alloc_sz] at this; exact this) (by simp [Value.oneCell']) (by unfold maxLen; omega) (by omega) (by rw [alloc_sz, alloc_sz]; omega) ?_)
      intro v' w10 hown hgr _ hat
      obtain ⟨p6, c6, rfl⟩ := own_slice hown
      have hpush := HO9.out.push (x := a) (v' := .slice p6 (0 + 1) c6) (W' := w10) HZK.out hown hgr (by rw [alloc_sz, alloc_sz]; exact hat)
      have hb10 : Below E.heap.size E w10 := Below.grown HB9.out hgr HB9.out.size (fun q hq => (HO9.out.row.lt q hq).1)
      have HP := Lib.hid hpush
      have HB10 := Lib.hid hb10
      clear hown hgr hat hpush hb10 HO9 HZK HB9 r0 r1
      go_wp2_with (fail)
      go_roundw
      case rel => exact ⟨0 + 1, _, by go_num, by omega, HP, HB10⟩
      case measure => simp [intOf]
    obtain rfl : j = 1 := by omega
    have hlx := HO.out.lx (by simp [maxLen])
    have hblk := HO.out.blk rfl
    have htk : ([a] : List Ex).take 1 = [a] := rfl
    rw [htk] at hlx
    clear h0 htk htl
    have HLX := Lib.hid hlx
    have HBK := Lib.hid hblk
    have hfz : Fz ≤ wr.heap.size := by have h1 := HF.out; have h2 := HES.out; omega
    have HFZ := Lib.hid hfz
    clear hlx hblk hfz
    go_wp2_with (fail)
    refine (number_ok (Fz := Fz) 0 _ (by decide) HFZ.out).mono ?_
    rintro en w3 ⟨z0, rfl, hz0', hB3⟩
    obtain ⟨bz, Sz, rfl, _⟩ := hz0'.root
    have hb3 := below_then HB.out hB3
    have hn3 := HN.out.grow hb3
    have HN3 := Lib.hid hn3
    have n0 := fun g : Grown w3 => heapN_cellj (HN3.out.grow g.h) (k := 0) (u := .int .i64 4) rfl
    have n1 := fun g : Grown w3 => heapN_cellj (HN3.out.grow g.h) (k := 1) (u := .int .i64 n) rfl
    have n2 := fun g : Grown w3 => heapN_cellj (HN3.out.grow g.h) (k := 2) (u := .int .i64 lo) rfl
    have n3 := fun g : Grown w3 => heapN_cellj (HN3.out.grow g.h) (k := 3) (u := .int .i64 hi) rfl
    have HZ0 := Lib.hid hz0'
    have HB3 := Lib.hid hb3
    have HL3 := Lib.hid (Lx.grow grows_tm HLX.out hB3)
    have HK3 := Lib.hid (fun (a : Addr) (ha : p7 = some a) => show Fz ≤ a.block from by have h0 := HBK.out a ha; have h1 := HF.out; have h2 := HES.out; omega)
    clear hz0' hb3 hn3 hB3 HO HB HLX HBK
    have hdv := HD.out.grow HB3.out
    have HDV := Lib.hid hdv
    have rl := fun g : Grown w3 => (HDV.out.grow g.h).rul.cell
    have lkf := fun g : Grown w3 => (HDV.out.grow g.h).map.get (i := 4) (by unfold W64; omega) ruleM_4
    have f0 := fun g : Grown w3 => cell_grow Qa.out (below_then HB3.out g.h)
    have f1 := fun g : Grown w3 => cell_grow Ra.out (below_then HB3.out g.h)
    have Pa := Lib.hid (fun g : Grown w3 => Ta.out.grow (below_then HB3.out g.h))
    have Za := Lib.hid (fun g : Grown w3 => Va.out.grow (below_then HB3.out g.h))
    clear hdv
    go_wp2_with (fail)
    refine region_pred (lk [(28, fun z_ _ => z_ = .map (some bm)), (29, fun z_ _ => z_ = .pointer (some ⟨W.heap.size, 0, none⟩)), (30, fun z_ _ => z_ = .int .i64 4), (31, fun z_ _ => z_ = .func (.func 103) #[] #[]), (32, fun z_ _ => z_ = .slice (some ⟨r, o, none⟩) 1 c), (33, fun z_ _ => z_ = .pointer (some ⟨r, o, none⟩)), (34, fun z_ _ => z_ = .agg #[.pointer (some ⟨ba, 0, none⟩), .pointer (some ⟨ca, 0, none⟩)]), (35, fun z_ _ => z_ = .slice (some ⟨r, o, none⟩) 1 c), (36, fun z_ _ => z_ = .slice (some ⟨r, o, none⟩) 1 c), (37, fun z_ _ => z_ = .int .i64 1), (38, fun z_ _ => z_ = .int .i64 0), (39, fun z_ _ => z_ = .pointer (some ⟨r, o, none⟩)), (40, fun z_ _ => z_ = .agg #[.pointer (some ⟨ba, 0, none⟩), .pointer (some ⟨ca, 0, none⟩)]), (41, fun z_ w_ => TmQ Fz w_ z_ (rl1 4 (a, a'))), (10, fun z_ w_ => TmQ Fz w_ z_ (rl1 4 (a, a')))]) (by kernel_rfl) (by kernel_rfl) (lk_steady _ ⟨steady_eq _, steady_eq _, steady_eq _, steady_eq _, steady_eq _, steady_eq _, steady_eq _, steady_eq _, steady_eq _, steady_eq _, steady_eq _, steady_eq _, steady_eq _, steady_tmq _, steady_tmq _, trivial⟩) ?_ ?_
    · refine ⟨?_, ?_, ?_, ?_, ?_, ?_, ?_, ?_, ?_, ?_, ?_, ?_, ?_, ?_, ?_, trivial⟩
      · refine ob_plain [2] rfl rfl fun aa g h => ?_
        have yy0 := seen_out (v := .pointer (some ⟨rb, 0, none⟩)) rfl rfl h.1
        have ee0 := getD_of yy0
        exact tupon_value (v := .map (some bm)) (by simp [go_sem, ee0, yy0, rl g]) (Below.refl _ _) rfl
      · refine ob_plain [4] rfl rfl fun aa g h => ?_
        have yy0 := seen_out (v := .pointer (some ⟨W.heap.size, 0, none⟩)) rfl rfl h.1
        have ee0 := getD_of yy0
        exact tupon_value (v := .pointer (some ⟨W.heap.size, 0, none⟩)) (by simp [go_sem, ee0, yy0]) (Below.refl _ _) rfl
      · refine ob_plain [29] rfl rfl fun aa g h => ?_
        obtain ⟨_, yy0, rfl⟩ := seen_in rfl h.1
        have ee0 := getD_of yy0
        exact tupon_value (v := .int .i64 4) (by simp [go_sem, ee0, yy0, n0 g]) (Below.refl _ _) rfl
      · refine ob_plain [28, 30] rfl rfl fun aa g h => ?_
        obtain ⟨_, yy0, rfl⟩ := seen_in rfl h.1
        have ee0 := getD_of yy0
        obtain ⟨_, yy1, rfl⟩ := seen_in rfl h.2.1
        have ee1 := getD_of yy1
        exact tupon_value (v := .func (.func 103) #[] #[]) (by simp [go_sem, ee0, yy0, ee1, yy1, lkf g]) (Below.refl _ _) rfl
      · refine ob_plain [1] rfl rfl fun aa g h => ?_
        have yy0 := seen_out (v := .slice (some ⟨r, o, none⟩) 1 c) rfl rfl h.1
        have ee0 := getD_of yy0
        exact tupon_value (v := .slice (some ⟨r, o, none⟩) 1 c) (by simp [go_sem, ee0, yy0]) (Below.refl _ _) rfl
      · refine ob_plain [32] rfl rfl fun aa g h => ?_
        obtain ⟨_, yy0, rfl⟩ := seen_in rfl h.1
        have ee0 := getD_of yy0
        exact tupon_value (v := .pointer (some ⟨r, o, none⟩)) (by simp [go_sem, ee0, yy0]) (Below.refl _ _) rfl
      · refine ob_plain [33] rfl rfl fun aa g h => ?_
        obtain ⟨_, yy0, rfl⟩ := seen_in rfl h.1
        have ee0 := getD_of yy0
        exact tupon_value (v := .agg #[.pointer (some ⟨ba, 0, none⟩), .pointer (some ⟨ca, 0, none⟩)]) (by simp [go_sem, ee0, yy0, f0 g, f1 g]) (Below.refl _ _) rfl
      · refine ob_plain [1] rfl rfl fun aa g h => ?_
        have yy0 := seen_out (v := .slice (some ⟨r, o, none⟩) 1 c) rfl rfl h.1
        have ee0 := getD_of yy0
        exact tupon_value (v := .slice (some ⟨r, o, none⟩) 1 c) (by simp [go_sem, ee0, yy0]) (Below.refl _ _) rfl
      · refine ob_plain [1] rfl rfl fun aa g h => ?_
        have yy0 := seen_out (v := .slice (some ⟨r, o, none⟩) 1 c) rfl rfl h.1
        have ee0 := getD_of yy0
        exact tupon_value (v := .slice (some ⟨r, o, none⟩) 1 c) (by simp [go_sem, ee0, yy0]) (Below.refl _ _) rfl
      · refine ob_plain [36] rfl rfl fun aa g h => ?_
        obtain ⟨_, yy0, rfl⟩ := seen_in rfl h.1
        have ee0 := getD_of yy0
        exact tupon_value (v := .int .i64 1) (by simp [go_sem, ee0, yy0]) (Below.refl _ _) rfl
      · refine ob_plain [37] rfl rfl fun aa g h => ?_
        obtain ⟨_, yy0, rfl⟩ := seen_in rfl h.1
        have ee0 := getD_of yy0
        exact tupon_value (v := .int .i64 0) (by simp [go_sem, ee0, yy0, wrap_0]) (Below.refl _ _) rfl
      · refine ob_plain [35, 38] rfl rfl fun aa g h => ?_
        obtain ⟨_, yy0, rfl⟩ := seen_in rfl h.1
        have ee0 := getD_of yy0
        obtain ⟨_, yy1, rfl⟩ := seen_in rfl h.2.1
        have ee1 := getD_of yy1
        exact tupon_value (v := .pointer (some ⟨r, o, none⟩)) (by simp [go_sem, ee0, yy0, ee1, yy1]) (Below.refl _ _) rfl
      · refine ob_plain [39] rfl rfl fun aa g h => ?_
        obtain ⟨_, yy0, rfl⟩ := seen_in rfl h.1
        have ee0 := getD_of yy0
        exact tupon_value (v := .agg #[.pointer (some ⟨ba, 0, none⟩), .pointer (some ⟨ca, 0, none⟩)]) (by simp [go_sem, ee0, yy0, f0 g, f1 g]) (Below.refl _ _) rfl
      · refine ob_plain [31, 34, 40] rfl rfl fun aa g h => ?_
        obtain ⟨_, yy0, rfl⟩ := seen_in rfl h.1
        have ee0 := getD_of yy0
        obtain ⟨_, yy1, rfl⟩ := seen_in rfl h.2.1
        have ee1 := getD_of yy1
        obtain ⟨_, yy2, rfl⟩ := seen_in rfl h.2.2.1
        have ee2 := getD_of yy2
        refine tupon_enter (f := 103) (args := #[.agg #[.pointer (some ⟨ba, 0, none⟩), .pointer (some ⟨ca, 0, none⟩)], .agg #[.pointer (some ⟨ba, 0, none⟩), .pointer (some ⟨ca, 0, none⟩)]]) (by simp [go_sem, ee0, yy0, ee1, yy1, ee2, yy2]) rfl ?_
        exact (rule1_ok N _ _ _ _ a a' a a' g.w (Pa.out g) (Za.out g) (Pa.out g) (Za.out g) Xa.out Ya.out Xa.out Ya.out).mono fun e w' ⟨z, he, hz, hB⟩ => ⟨_, he, hB, tmq_of hz⟩
      · refine ob_plain [41] rfl rfl fun aa g h => ?_
        obtain ⟨_, yy0, ⟨b41, rfl, hz41⟩⟩ := seen_in rfl h.1
        have ee0 := getD_of yy0
        exact tupon_value (v := .pointer (some ⟨b41, 0, none⟩)) (by simp [go_sem, ee0, yy0]) (Below.refl _ _) ⟨_, rfl, hz41⟩
    rintro w5 hB _ rfl _ rfl _ rfl _ rfl _ rfl _ rfl _ rfl _ rfl _ rfl _ rfl _ rfl _ rfl _ rfl _ ⟨b41, rfl, hz41⟩ _ ⟨b10, rfl, hz10⟩
    simp only [Act.put, List.setIfInBounds_toArray, List.set_cons_succ, List.set_cons_zero, List.filterMap_nil, finP]
    have hz10' : TmP Fz w5 (.pointer (some ⟨b10, 0, none⟩)) res2 := by have := R2.out; rw [← this]; exact hz10
    have HZ5 := Lib.hid hz10'
    have HB5 := Lib.hid hB
    clear hz10 hz41 hz10' hB rl lkf f0 f1 Pa Za
    have a0 := n0 ⟨w5, HB5.out⟩
    have a1 := n1 ⟨w5, HB5.out⟩
    have a2 := n2 ⟨w5, HB5.out⟩
    have a3 := n3 ⟨w5, HB5.out⟩
    dsimp only at a0 a1 a2 a3
    clear n0 n1 n2 n3
    go_wp2_with (fail)
    refine (simpL_ok (Fz := Fz) N 4 n lo hi p7 c7 [a] w5 (Lx.grow grows_tm HL3.out (HB5.out)) HK3.out (HZ5.out.fz) rfl (by simp; exact Xa.out)).mono ?_
    rintro en w7 ⟨z7, rfl, hz7, hB7⟩
    obtain ⟨b7, S7, rfl, _⟩ := hz7.root
    have hb7 := below_then HB3.out (below_then (HB5.out) hB7)
    have hr7 := HR.out.grow hb7
    have q0 := heapN_cellj hr7 (k := 0) (u := .pointer none) rfl
    have q1 := heapN_cellj hr7 (k := 1) (u := .pointer none) rfl
    have y0 : w7.frozen? ⟨W.heap.size + 1, 0, none⟩ = false := by simp [World.frozen?, show w7.heap[W.heap.size + 1]? = _ from hr7]
    have y1 : w7.frozen? ⟨W.heap.size + 1, 1, none⟩ = false := by simp [World.frozen?, show w7.heap[W.heap.size + 1]? = _ from hr7]
    rw [R1.out] at hz7
    obtain ⟨w8, e8, hI8, hO8⟩ := set2 hr7 (.pointer (some ⟨b7, 0, none⟩)) (.pointer (some ⟨b10, 0, none⟩))
    have x0 := heapN_cellj hI8 (k := 0) (u := .pointer (some ⟨b7, 0, none⟩)) rfl
    have x1 := heapN_cellj hI8 (k := 1) (u := .pointer (some ⟨b10, 0, none⟩)) rfl
    have hb8 : Below W.heap.size W w8 := hO8.bel (below_then HE.out hb7) (by omega) (by have := HE.out.size; have := hb7.size; omega)
    have HK1 := Lib.hid (tm_oth hr7 hO8 hz7)
    have HK2 := Lib.hid (tm_oth hr7 hO8 (HZ5.out.grow hB7))
    have HB8 := Lib.hid hb8
    rw [← e8] at x0 x1
    have HE8 := Lib.hid e8
    clear a0 a1 a2 a3 hz7 hB7 hb7 hr7 e8 hI8 hO8 hb8
    go_wp2_with (fail)
    refine bodyPost_ret (v := .agg #[.pointer (some ⟨b7, 0, none⟩), .pointer (some ⟨b10, 0, none⟩)]) (by simp [results, Tryz.results78, go_sem, x0, x1]) rfl ?_
    rw [HE8.out]
    exact ⟨_, _, rfl, HK1.out, HK2.out, HB8.out⟩
set_option maxHeartbeats 16000000 in
theorem visit1_5 (N : Int) (rb vb bm : Nat) (y : Nd) (n lo hi : Int) (c : Nat) (W : World) (r o : Nat) (ua za : Value) (a a' : Ex) (ha : W.cell? ⟨r, o, none⟩ = some ua) (ga : W.cell? ⟨r, o + 1, none⟩ = some za) (ta : TmP Fz W ua a) (sa : TmP Fz W za a') (ea : EV N a) (da : EV N a') (hD : DvS rb vb bm y W) :
    Calls Tryz.prog 78 #[.agg #[.int .i64 5, .int .i64 n, .int .i64 lo, .int .i64 hi], .slice (some ⟨r, o, none⟩) 1 c, .pointer (some ⟨rb, 0, none⟩), .pointer (some ⟨vb, 0, none⟩)] W fun en w' => ∃ u u', en = .returned (.agg #[u, u']) ∧ TmP Fz w' u (sE ⟨5, n, lo, hi⟩ [a]) ∧ TmP Fz w' u' (dE y ⟨5, n, lo, hi⟩ [(a, a')]) ∧ Below W.heap.size W w' := by
  obtain ⟨i0, hi0, hz0, hz1, hz2⟩ := info_parts info_pt
  obtain ⟨ba, Sa, rfl, _⟩ := ta.root
  obtain ⟨ca, Ua, rfl, _⟩ := sa.root
  have hF := ta.fz
  have hE : Below W.heap.size W ((W.alloc (.cells #[.int .i64 5, .int .i64 n, .int .i64 lo, .int .i64 hi] 63)).alloc (.cells #[.pointer none, .pointer none] 96)) := allocs_below [.cells #[.int .i64 5, .int .i64 n, .int .i64 lo, .int .i64 hi] 63, .cells #[.pointer none, .pointer none] 96] W
  have hN : Blk ((W.alloc (.cells #[.int .i64 5, .int .i64 n, .int .i64 lo, .int .i64 hi] 63)).alloc (.cells #[.pointer none, .pointer none] 96)) W.heap.size (.cells #[.int .i64 5, .int .i64 n, .int .i64 lo, .int .i64 hi] 63) := allocs_at [.cells #[.int .i64 5, .int .i64 n, .int .i64 lo, .int .i64 hi] 63, .cells #[.pointer none, .pointer none] 96] W 0 _ rfl
  have hR : Blk ((W.alloc (.cells #[.int .i64 5, .int .i64 n, .int .i64 lo, .int .i64 hi] 63)).alloc (.cells #[.pointer none, .pointer none] 96)) (W.heap.size + 1) (.cells #[.pointer none, .pointer none] 96) := allocs_at [.cells #[.int .i64 5, .int .i64 n, .int .i64 lo, .int .i64 hi] 63, .cells #[.pointer none, .pointer none] 96] W 1 _ rfl
  have hEs : (((W.alloc (.cells #[.int .i64 5, .int .i64 n, .int .i64 lo, .int .i64 hi] 63)).alloc (.cells #[.pointer none, .pointer none] 96))).heap.size = W.heap.size + 1 + 1 := by rw [alloc_sz, alloc_sz]
  have qa := cell_grow ha hE
  have ra := cell_grow ga hE
  have Ta := Lib.hid (ta.grow hE)
  have Va := Lib.hid (sa.grow hE)
  have Xa := Lib.hid ea
  have Ya := Lib.hid da
  clear ha ga ta sa ea da
  have HD := Lib.hid (hD.grow hE)
  obtain ⟨E, hEE⟩ : ∃ E, ((W.alloc (.cells #[.int .i64 5, .int .i64 n, .int .i64 lo, .int .i64 hi] 63)).alloc (.cells #[.pointer none, .pointer none] 96)) = E := ⟨_, rfl⟩
  rw [hEE] at hE hN hR hEs HD qa ra Ta Va
  have HE := Lib.hid hE
  have HEE := Lib.hid hEE
  have HES := Lib.hid hEs
  have HF := Lib.hid hF
  have HN := Lib.hid hN
  have HR := Lib.hid hR
  have Qa := Lib.hid qa
  have Ra := Lib.hid ra
  clear qa ra
  have HW0 := Lib.hid (show OwnT Fz E.heap.size E (.slice none 0 0) [] [] from ⟨World.ownsRow_nil _ _ _ _, fun k u x h => by simp at h⟩)
  generalize hres1 : sE ⟨5, n, lo, hi⟩ [a] = res1
  generalize hres2 : dE y ⟨5, n, lo, hi⟩ [(a, a')] = res2
  have R1 := Lib.hid hres1
  have R2 := Lib.hid hres2
  clear hE hEE hD hF hEs hres1 hres2 hN hR
  go_enter Tryz.func78, Tryz.ntmps78
  go_wp2_with (fail)
  rw [HEE.out]
  go_loopw [7, 13] (fun v7 i wr => ∃ (j : Nat) (us : List Value), i = .int .i64 j ∧ j ≤ 1 ∧ Hid (OwnT Fz E.heap.size wr v7 (([a] : List Ex).take j) us) ∧ Hid (Below E.heap.size E wr)) (fun v7 i _ => 1 - (intOf i).toNat)
  case atStart => exact ⟨0, [], rfl, Nat.zero_le _, HW0, Lib.hid (Below.refl _ _)⟩
  case round =>
    clear HW0
    obtain ⟨j, us, rfl, hj, HO, HB⟩ := hrel
    obtain ⟨p7, c7, rfl⟩ := own_slice HO.out.row
    have htl : (([a] : List Ex).take j).length = j := by rw [List.length_take]; simp; omega
    rw [htl] at HO ⊢
    have hbs := HB.out.size
    by_cases h0 : j = 0
    · subst h0
      have r0 : wr.cell? ⟨r, o, none⟩ = some (.pointer (some ⟨ba, 0, none⟩)) := cell_grow Qa.out HB.out
      have r1 : wr.cell? ⟨r, o + 1, none⟩ = some (.pointer (some ⟨ca, 0, none⟩)) := cell_grow Ra.out HB.out
      have hA : Below wr.heap.size wr ((wr.alloc (.cells #[.pointer (some ⟨ba, 0, none⟩), .pointer (some ⟨ca, 0, none⟩)] 96)).alloc (.cells #[.pointer (some ⟨ba, 0, none⟩)] 69)) := ((Below.refl _ _).alloc (Nat.le_refl _) _).alloc (by rw [alloc_sz]; omega) _
      have HO9 := Lib.hid (HO.out.grow hA)
      have HB9 := Lib.hid (below_then HB.out hA)
      have hzk : ∀ W', ((wr.alloc (.cells #[.pointer (some ⟨ba, 0, none⟩), .pointer (some ⟨ca, 0, none⟩)] 96)).alloc (.cells #[.pointer (some ⟨ba, 0, none⟩)] 69)).grownBy W' (Value.slice p7 0 c7).ownBlock → TmP Fz W' (.pointer (some ⟨ba, 0, none⟩)) a := fun W' h => Ta.out.grow (Below.grown HB9.out h HB9.out.size (fun q hq => (HO9.out.row.lt q hq).1))
      have HZK := Lib.hid hzk
      clear hA hzk HO HB
      go_wp2_with (at_builtin; refine wpList_append_own_at _ rfl (.tmp 17) (.tmp 20) 86 rfl E.heap.size 69 i0 (.pointer none) 1 8 Tryz.underlying86 hi0 hz0 hz1 hz2 rfl (by decide) (.slice p7 0 c7) 0 _ rfl (by have := HO9.out.row; exact this) ⟨wr.heap.size + 1, 0, none⟩ 1 1 [.pointer (some ⟨ba, 0, none⟩)] rfl rfl (by have := one_newN (wr.alloc (.cells #[.pointer (some ⟨ba, 0, none⟩), .pointer (some ⟨ca, 0, none⟩)] 96)) (.pointer (some ⟨ba, 0, none⟩)) 69; rw [alloc_sz] at this; exact this) (by simp [Value.oneCell']) (by unfold maxLen; omega) (by omega) (by rw [alloc_sz, alloc_sz]; omega) ?_)
      intro v' w10 hown hgr _ hat
      obtain ⟨p6, c6, rfl⟩ := own_slice hown
      have hpush := HO9.out.push (x := a) (v' := .slice p6 (0 + 1) c6) (W' := w10) HZK.out hown hgr (by rw [alloc_sz, alloc_sz]; exact hat)
      have hb10 : Below E.heap.size E w10 := Below.grown HB9.out hgr HB9.out.size (fun q hq => (HO9.out.row.lt q hq).1)
      have HP := Lib.hid hpush
      have HB10 := Lib.hid hb10
      clear hown hgr hat hpush hb10 HO9 HZK HB9 r0 r1
      go_wp2_with (fail)
      go_roundw
      case rel => exact ⟨0 + 1, _, by go_num, by omega, HP, HB10⟩
      case measure => simp [intOf]
    obtain rfl : j = 1 := by omega
    have hlx := HO.out.lx (by simp [maxLen])
    have hblk := HO.out.blk rfl
    have htk : ([a] : List Ex).take 1 = [a] := rfl
    rw [htk] at hlx
    clear h0 htk htl
    have HLX := Lib.hid hlx
    have HBK := Lib.hid hblk
    have hfz : Fz ≤ wr.heap.size := by have h1 := HF.out; have h2 := HES.out; omega
    have HFZ := Lib.hid hfz
    clear hlx hblk hfz
    go_wp2_with (fail)
    refine (number_ok (Fz := Fz) 0 _ (by decide) HFZ.out).mono ?_
    rintro en w3 ⟨z0, rfl, hz0', hB3⟩
    obtain ⟨bz, Sz, rfl, _⟩ := hz0'.root
    have hb3 := below_then HB.out hB3
    have hn3 := HN.out.grow hb3
    have HN3 := Lib.hid hn3
    have n0 := fun g : Grown w3 => heapN_cellj (HN3.out.grow g.h) (k := 0) (u := .int .i64 5) rfl
    have n1 := fun g : Grown w3 => heapN_cellj (HN3.out.grow g.h) (k := 1) (u := .int .i64 n) rfl
    have n2 := fun g : Grown w3 => heapN_cellj (HN3.out.grow g.h) (k := 2) (u := .int .i64 lo) rfl
    have n3 := fun g : Grown w3 => heapN_cellj (HN3.out.grow g.h) (k := 3) (u := .int .i64 hi) rfl
    have HZ0 := Lib.hid hz0'
    have HB3 := Lib.hid hb3
    have HL3 := Lib.hid (Lx.grow grows_tm HLX.out hB3)
    have HK3 := Lib.hid (fun (a : Addr) (ha : p7 = some a) => show Fz ≤ a.block from by have h0 := HBK.out a ha; have h1 := HF.out; have h2 := HES.out; omega)
    clear hz0' hb3 hn3 hB3 HO HB HLX HBK
    have hdv := HD.out.grow HB3.out
    have HDV := Lib.hid hdv
    have rl := fun g : Grown w3 => (HDV.out.grow g.h).rul.cell
    have lkf := fun g : Grown w3 => (HDV.out.grow g.h).map.get (i := 5) (by unfold W64; omega) ruleM_5
    have f0 := fun g : Grown w3 => cell_grow Qa.out (below_then HB3.out g.h)
    have f1 := fun g : Grown w3 => cell_grow Ra.out (below_then HB3.out g.h)
    have Pa := Lib.hid (fun g : Grown w3 => Ta.out.grow (below_then HB3.out g.h))
    have Za := Lib.hid (fun g : Grown w3 => Va.out.grow (below_then HB3.out g.h))
    clear hdv
    go_wp2_with (fail)
    refine region_pred (lk [(28, fun z_ _ => z_ = .map (some bm)), (29, fun z_ _ => z_ = .pointer (some ⟨W.heap.size, 0, none⟩)), (30, fun z_ _ => z_ = .int .i64 5), (31, fun z_ _ => z_ = .func (.func 109) #[] #[]), (32, fun z_ _ => z_ = .slice (some ⟨r, o, none⟩) 1 c), (33, fun z_ _ => z_ = .pointer (some ⟨r, o, none⟩)), (34, fun z_ _ => z_ = .agg #[.pointer (some ⟨ba, 0, none⟩), .pointer (some ⟨ca, 0, none⟩)]), (35, fun z_ _ => z_ = .slice (some ⟨r, o, none⟩) 1 c), (36, fun z_ _ => z_ = .slice (some ⟨r, o, none⟩) 1 c), (37, fun z_ _ => z_ = .int .i64 1), (38, fun z_ _ => z_ = .int .i64 0), (39, fun z_ _ => z_ = .pointer (some ⟨r, o, none⟩)), (40, fun z_ _ => z_ = .agg #[.pointer (some ⟨ba, 0, none⟩), .pointer (some ⟨ca, 0, none⟩)]), (41, fun z_ w_ => TmQ Fz w_ z_ (rl1 5 (a, a'))), (10, fun z_ w_ => TmQ Fz w_ z_ (rl1 5 (a, a')))]) (by kernel_rfl) (by kernel_rfl) (lk_steady _ ⟨steady_eq _, steady_eq _, steady_eq _, steady_eq _, steady_eq _, steady_eq _, steady_eq _, steady_eq _, steady_eq _, steady_eq _, steady_eq _, steady_eq _, steady_eq _, steady_tmq _, steady_tmq _, trivial⟩) ?_ ?_
    · refine ⟨?_, ?_, ?_, ?_, ?_, ?_, ?_, ?_, ?_, ?_, ?_, ?_, ?_, ?_, ?_, trivial⟩
      · refine ob_plain [2] rfl rfl fun aa g h => ?_
        have yy0 := seen_out (v := .pointer (some ⟨rb, 0, none⟩)) rfl rfl h.1
        have ee0 := getD_of yy0
        exact tupon_value (v := .map (some bm)) (by simp [go_sem, ee0, yy0, rl g]) (Below.refl _ _) rfl
      · refine ob_plain [4] rfl rfl fun aa g h => ?_
        have yy0 := seen_out (v := .pointer (some ⟨W.heap.size, 0, none⟩)) rfl rfl h.1
        have ee0 := getD_of yy0
        exact tupon_value (v := .pointer (some ⟨W.heap.size, 0, none⟩)) (by simp [go_sem, ee0, yy0]) (Below.refl _ _) rfl
      · refine ob_plain [29] rfl rfl fun aa g h => ?_
        obtain ⟨_, yy0, rfl⟩ := seen_in rfl h.1
        have ee0 := getD_of yy0
        exact tupon_value (v := .int .i64 5) (by simp [go_sem, ee0, yy0, n0 g]) (Below.refl _ _) rfl
      · refine ob_plain [28, 30] rfl rfl fun aa g h => ?_
        obtain ⟨_, yy0, rfl⟩ := seen_in rfl h.1
        have ee0 := getD_of yy0
        obtain ⟨_, yy1, rfl⟩ := seen_in rfl h.2.1
        have ee1 := getD_of yy1
        exact tupon_value (v := .func (.func 109) #[] #[]) (by simp [go_sem, ee0, yy0, ee1, yy1, lkf g]) (Below.refl _ _) rfl
      · refine ob_plain [1] rfl rfl fun aa g h => ?_
        have yy0 := seen_out (v := .slice (some ⟨r, o, none⟩) 1 c) rfl rfl h.1
        have ee0 := getD_of yy0
        exact tupon_value (v := .slice (some ⟨r, o, none⟩) 1 c) (by simp [go_sem, ee0, yy0]) (Below.refl _ _) rfl
      · refine ob_plain [32] rfl rfl fun aa g h => ?_
        obtain ⟨_, yy0, rfl⟩ := seen_in rfl h.1
        have ee0 := getD_of yy0
        exact tupon_value (v := .pointer (some ⟨r, o, none⟩)) (by simp [go_sem, ee0, yy0]) (Below.refl _ _) rfl
      · refine ob_plain [33] rfl rfl fun aa g h => ?_
        obtain ⟨_, yy0, rfl⟩ := seen_in rfl h.1
        have ee0 := getD_of yy0
        exact tupon_value (v := .agg #[.pointer (some ⟨ba, 0, none⟩), .pointer (some ⟨ca, 0, none⟩)]) (by simp [go_sem, ee0, yy0, f0 g, f1 g]) (Below.refl _ _) rfl
      · refine ob_plain [1] rfl rfl fun aa g h => ?_
        have yy0 := seen_out (v := .slice (some ⟨r, o, none⟩) 1 c) rfl rfl h.1
        have ee0 := getD_of yy0
        exact tupon_value (v := .slice (some ⟨r, o, none⟩) 1 c) (by simp [go_sem, ee0, yy0]) (Below.refl _ _) rfl
      · refine ob_plain [1] rfl rfl fun aa g h => ?_
        have yy0 := seen_out (v := .slice (some ⟨r, o, none⟩) 1 c) rfl rfl h.1
        have ee0 := getD_of yy0
        exact tupon_value (v := .slice (some ⟨r, o, none⟩) 1 c) (by simp [go_sem, ee0, yy0]) (Below.refl _ _) rfl
      · refine ob_plain [36] rfl rfl fun aa g h => ?_
        obtain ⟨_, yy0, rfl⟩ := seen_in rfl h.1
        have ee0 := getD_of yy0
        exact tupon_value (v := .int .i64 1) (by simp [go_sem, ee0, yy0]) (Below.refl _ _) rfl
      · refine ob_plain [37] rfl rfl fun aa g h => ?_
        obtain ⟨_, yy0, rfl⟩ := seen_in rfl h.1
        have ee0 := getD_of yy0
        exact tupon_value (v := .int .i64 0) (by simp [go_sem, ee0, yy0, wrap_0]) (Below.refl _ _) rfl
      · refine ob_plain [35, 38] rfl rfl fun aa g h => ?_
        obtain ⟨_, yy0, rfl⟩ := seen_in rfl h.1
        have ee0 := getD_of yy0
        obtain ⟨_, yy1, rfl⟩ := seen_in rfl h.2.1
        have ee1 := getD_of yy1
        exact tupon_value (v := .pointer (some ⟨r, o, none⟩)) (by simp [go_sem, ee0, yy0, ee1, yy1]) (Below.refl _ _) rfl
      · refine ob_plain [39] rfl rfl fun aa g h => ?_
        obtain ⟨_, yy0, rfl⟩ := seen_in rfl h.1
        have ee0 := getD_of yy0
        exact tupon_value (v := .agg #[.pointer (some ⟨ba, 0, none⟩), .pointer (some ⟨ca, 0, none⟩)]) (by simp [go_sem, ee0, yy0, f0 g, f1 g]) (Below.refl _ _) rfl
      · refine ob_plain [31, 34, 40] rfl rfl fun aa g h => ?_
        obtain ⟨_, yy0, rfl⟩ := seen_in rfl h.1
        have ee0 := getD_of yy0
        obtain ⟨_, yy1, rfl⟩ := seen_in rfl h.2.1
        have ee1 := getD_of yy1
        obtain ⟨_, yy2, rfl⟩ := seen_in rfl h.2.2.1
        have ee2 := getD_of yy2
        refine tupon_enter (f := 109) (args := #[.agg #[.pointer (some ⟨ba, 0, none⟩), .pointer (some ⟨ca, 0, none⟩)], .agg #[.pointer (some ⟨ba, 0, none⟩), .pointer (some ⟨ca, 0, none⟩)]]) (by simp [go_sem, ee0, yy0, ee1, yy1, ee2, yy2]) rfl ?_
        exact (rule6_ok N _ _ _ _ a a' a a' g.w (Pa.out g) (Za.out g) (Pa.out g) (Za.out g) Xa.out Ya.out Xa.out Ya.out).mono fun e w' ⟨z, he, hz, hB⟩ => ⟨_, he, hB, tmq_of hz⟩
      · refine ob_plain [41] rfl rfl fun aa g h => ?_
        obtain ⟨_, yy0, ⟨b41, rfl, hz41⟩⟩ := seen_in rfl h.1
        have ee0 := getD_of yy0
        exact tupon_value (v := .pointer (some ⟨b41, 0, none⟩)) (by simp [go_sem, ee0, yy0]) (Below.refl _ _) ⟨_, rfl, hz41⟩
    rintro w5 hB _ rfl _ rfl _ rfl _ rfl _ rfl _ rfl _ rfl _ rfl _ rfl _ rfl _ rfl _ rfl _ rfl _ ⟨b41, rfl, hz41⟩ _ ⟨b10, rfl, hz10⟩
    simp only [Act.put, List.setIfInBounds_toArray, List.set_cons_succ, List.set_cons_zero, List.filterMap_nil, finP]
    have hz10' : TmP Fz w5 (.pointer (some ⟨b10, 0, none⟩)) res2 := by have := R2.out; rw [← this]; exact hz10
    have HZ5 := Lib.hid hz10'
    have HB5 := Lib.hid hB
    clear hz10 hz41 hz10' hB rl lkf f0 f1 Pa Za
    have a0 := n0 ⟨w5, HB5.out⟩
    have a1 := n1 ⟨w5, HB5.out⟩
    have a2 := n2 ⟨w5, HB5.out⟩
    have a3 := n3 ⟨w5, HB5.out⟩
    dsimp only at a0 a1 a2 a3
    clear n0 n1 n2 n3
    go_wp2_with (fail)
    refine (simpL_ok (Fz := Fz) N 5 n lo hi p7 c7 [a] w5 (Lx.grow grows_tm HL3.out (HB5.out)) HK3.out (HZ5.out.fz) rfl (by simp; exact Xa.out)).mono ?_
    rintro en w7 ⟨z7, rfl, hz7, hB7⟩
    obtain ⟨b7, S7, rfl, _⟩ := hz7.root
    have hb7 := below_then HB3.out (below_then (HB5.out) hB7)
    have hr7 := HR.out.grow hb7
    have q0 := heapN_cellj hr7 (k := 0) (u := .pointer none) rfl
    have q1 := heapN_cellj hr7 (k := 1) (u := .pointer none) rfl
    have y0 : w7.frozen? ⟨W.heap.size + 1, 0, none⟩ = false := by simp [World.frozen?, show w7.heap[W.heap.size + 1]? = _ from hr7]
    have y1 : w7.frozen? ⟨W.heap.size + 1, 1, none⟩ = false := by simp [World.frozen?, show w7.heap[W.heap.size + 1]? = _ from hr7]
    rw [R1.out] at hz7
    obtain ⟨w8, e8, hI8, hO8⟩ := set2 hr7 (.pointer (some ⟨b7, 0, none⟩)) (.pointer (some ⟨b10, 0, none⟩))
    have x0 := heapN_cellj hI8 (k := 0) (u := .pointer (some ⟨b7, 0, none⟩)) rfl
    have x1 := heapN_cellj hI8 (k := 1) (u := .pointer (some ⟨b10, 0, none⟩)) rfl
    have hb8 : Below W.heap.size W w8 := hO8.bel (below_then HE.out hb7) (by omega) (by have := HE.out.size; have := hb7.size; omega)
    have HK1 := Lib.hid (tm_oth hr7 hO8 hz7)
    have HK2 := Lib.hid (tm_oth hr7 hO8 (HZ5.out.grow hB7))
    have HB8 := Lib.hid hb8
    rw [← e8] at x0 x1
    have HE8 := Lib.hid e8
    clear a0 a1 a2 a3 hz7 hB7 hb7 hr7 e8 hI8 hO8 hb8
    go_wp2_with (fail)
    refine bodyPost_ret (v := .agg #[.pointer (some ⟨b7, 0, none⟩), .pointer (some ⟨b10, 0, none⟩)]) (by simp [results, Tryz.results78, go_sem, x0, x1]) rfl ?_
    rw [HE8.out]
    exact ⟨_, _, rfl, HK1.out, HK2.out, HB8.out⟩
set_option maxHeartbeats 16000000 in
theorem visit1_6 (N : Int) (rb vb bm : Nat) (y : Nd) (n lo hi : Int) (c : Nat) (W : World) (r o : Nat) (ua za : Value) (a a' : Ex) (ha : W.cell? ⟨r, o, none⟩ = some ua) (ga : W.cell? ⟨r, o + 1, none⟩ = some za) (ta : TmP Fz W ua a) (sa : TmP Fz W za a') (ea : EV N a) (da : EV N a') (hD : DvS rb vb bm y W) :
    Calls Tryz.prog 78 #[.agg #[.int .i64 6, .int .i64 n, .int .i64 lo, .int .i64 hi], .slice (some ⟨r, o, none⟩) 1 c, .pointer (some ⟨rb, 0, none⟩), .pointer (some ⟨vb, 0, none⟩)] W fun en w' => ∃ u u', en = .returned (.agg #[u, u']) ∧ TmP Fz w' u (sE ⟨6, n, lo, hi⟩ [a]) ∧ TmP Fz w' u' (dE y ⟨6, n, lo, hi⟩ [(a, a')]) ∧ Below W.heap.size W w' := by
  obtain ⟨i0, hi0, hz0, hz1, hz2⟩ := info_parts info_pt
  obtain ⟨ba, Sa, rfl, _⟩ := ta.root
  obtain ⟨ca, Ua, rfl, _⟩ := sa.root
  have hF := ta.fz
  have hE : Below W.heap.size W ((W.alloc (.cells #[.int .i64 6, .int .i64 n, .int .i64 lo, .int .i64 hi] 63)).alloc (.cells #[.pointer none, .pointer none] 96)) := allocs_below [.cells #[.int .i64 6, .int .i64 n, .int .i64 lo, .int .i64 hi] 63, .cells #[.pointer none, .pointer none] 96] W
  have hN : Blk ((W.alloc (.cells #[.int .i64 6, .int .i64 n, .int .i64 lo, .int .i64 hi] 63)).alloc (.cells #[.pointer none, .pointer none] 96)) W.heap.size (.cells #[.int .i64 6, .int .i64 n, .int .i64 lo, .int .i64 hi] 63) := allocs_at [.cells #[.int .i64 6, .int .i64 n, .int .i64 lo, .int .i64 hi] 63, .cells #[.pointer none, .pointer none] 96] W 0 _ rfl
  have hR : Blk ((W.alloc (.cells #[.int .i64 6, .int .i64 n, .int .i64 lo, .int .i64 hi] 63)).alloc (.cells #[.pointer none, .pointer none] 96)) (W.heap.size + 1) (.cells #[.pointer none, .pointer none] 96) := allocs_at [.cells #[.int .i64 6, .int .i64 n, .int .i64 lo, .int .i64 hi] 63, .cells #[.pointer none, .pointer none] 96] W 1 _ rfl
  have hEs : (((W.alloc (.cells #[.int .i64 6, .int .i64 n, .int .i64 lo, .int .i64 hi] 63)).alloc (.cells #[.pointer none, .pointer none] 96))).heap.size = W.heap.size + 1 + 1 := by rw [alloc_sz, alloc_sz]
  have qa := cell_grow ha hE
  have ra := cell_grow ga hE
  have Ta := Lib.hid (ta.grow hE)
  have Va := Lib.hid (sa.grow hE)
  have Xa := Lib.hid ea
  have Ya := Lib.hid da
  clear ha ga ta sa ea da
  have HD := Lib.hid (hD.grow hE)
  obtain ⟨E, hEE⟩ : ∃ E, ((W.alloc (.cells #[.int .i64 6, .int .i64 n, .int .i64 lo, .int .i64 hi] 63)).alloc (.cells #[.pointer none, .pointer none] 96)) = E := ⟨_, rfl⟩
  rw [hEE] at hE hN hR hEs HD qa ra Ta Va
  have HE := Lib.hid hE
  have HEE := Lib.hid hEE
  have HES := Lib.hid hEs
  have HF := Lib.hid hF
  have HN := Lib.hid hN
  have HR := Lib.hid hR
  have Qa := Lib.hid qa
  have Ra := Lib.hid ra
  clear qa ra
  have HW0 := Lib.hid (show OwnT Fz E.heap.size E (.slice none 0 0) [] [] from ⟨World.ownsRow_nil _ _ _ _, fun k u x h => by simp at h⟩)
  generalize hres1 : sE ⟨6, n, lo, hi⟩ [a] = res1
  generalize hres2 : dE y ⟨6, n, lo, hi⟩ [(a, a')] = res2
  have R1 := Lib.hid hres1
  have R2 := Lib.hid hres2
  clear hE hEE hD hF hEs hres1 hres2 hN hR
  go_enter Tryz.func78, Tryz.ntmps78
  go_wp2_with (fail)
  rw [HEE.out]
  go_loopw [7, 13] (fun v7 i wr => ∃ (j : Nat) (us : List Value), i = .int .i64 j ∧ j ≤ 1 ∧ Hid (OwnT Fz E.heap.size wr v7 (([a] : List Ex).take j) us) ∧ Hid (Below E.heap.size E wr)) (fun v7 i _ => 1 - (intOf i).toNat)
  case atStart => exact ⟨0, [], rfl, Nat.zero_le _, HW0, Lib.hid (Below.refl _ _)⟩
  case round =>
    clear HW0
    obtain ⟨j, us, rfl, hj, HO, HB⟩ := hrel
    obtain ⟨p7, c7, rfl⟩ := own_slice HO.out.row
    have htl : (([a] : List Ex).take j).length = j := by rw [List.length_take]; simp; omega
    rw [htl] at HO ⊢
    have hbs := HB.out.size
    by_cases h0 : j = 0
    · subst h0
      have r0 : wr.cell? ⟨r, o, none⟩ = some (.pointer (some ⟨ba, 0, none⟩)) := cell_grow Qa.out HB.out
      have r1 : wr.cell? ⟨r, o + 1, none⟩ = some (.pointer (some ⟨ca, 0, none⟩)) := cell_grow Ra.out HB.out
      have hA : Below wr.heap.size wr ((wr.alloc (.cells #[.pointer (some ⟨ba, 0, none⟩), .pointer (some ⟨ca, 0, none⟩)] 96)).alloc (.cells #[.pointer (some ⟨ba, 0, none⟩)] 69)) := ((Below.refl _ _).alloc (Nat.le_refl _) _).alloc (by rw [alloc_sz]; omega) _
      have HO9 := Lib.hid (HO.out.grow hA)
      have HB9 := Lib.hid (below_then HB.out hA)
      have hzk : ∀ W', ((wr.alloc (.cells #[.pointer (some ⟨ba, 0, none⟩), .pointer (some ⟨ca, 0, none⟩)] 96)).alloc (.cells #[.pointer (some ⟨ba, 0, none⟩)] 69)).grownBy W' (Value.slice p7 0 c7).ownBlock → TmP Fz W' (.pointer (some ⟨ba, 0, none⟩)) a := fun W' h => Ta.out.grow (Below.grown HB9.out h HB9.out.size (fun q hq => (HO9.out.row.lt q hq).1))
      have HZK := Lib.hid hzk
      clear hA hzk HO HB
      go_wp2_with (at_builtin; refine wpList_append_own_at _ rfl (.tmp 17) (.tmp 20) 86 rfl E.heap.size 69 i0 (.pointer none) 1 8 Tryz.underlying86 hi0 hz0 hz1 hz2 rfl (by decide) (.slice p7 0 c7) 0 _ rfl (by have := HO9.out.row; exact this) ⟨wr.heap.size + 1, 0, none⟩ 1 1 [.pointer (some ⟨ba, 0, none⟩)] rfl rfl (by have := one_newN (wr.alloc (.cells #[.pointer (some ⟨ba, 0, none⟩), .pointer (some ⟨ca, 0, none⟩)] 96)) (.pointer (some ⟨ba, 0, none⟩)) 69; rw [alloc_sz] at this; exact this) (by simp [Value.oneCell']) (by unfold maxLen; omega) (by omega) (by rw [alloc_sz, alloc_sz]; omega) ?_)
      intro v' w10 hown hgr _ hat
      obtain ⟨p6, c6, rfl⟩ := own_slice hown
      have hpush := HO9.out.push (x := a) (v' := .slice p6 (0 + 1) c6) (W' := w10) HZK.out hown hgr (by rw [alloc_sz, alloc_sz]; exact hat)
      have hb10 : Below E.heap.size E w10 := Below.grown HB9.out hgr HB9.out.size (fun q hq => (HO9.out.row.lt q hq).1)
      have HP := Lib.hid hpush
      have HB10 := Lib.hid hb10
      clear hown hgr hat hpush hb10 HO9 HZK HB9 r0 r1
      go_wp2_with (fail)
      go_roundw
      case rel => exact ⟨0 + 1, _, by go_num, by omega, HP, HB10⟩
      case measure => simp [intOf]
    obtain rfl : j = 1 := by omega
    have hlx := HO.out.lx (by simp [maxLen])
    have hblk := HO.out.blk rfl
    have htk : ([a] : List Ex).take 1 = [a] := rfl
    rw [htk] at hlx
    clear h0 htk htl
    have HLX := Lib.hid hlx
    have HBK := Lib.hid hblk
    have hfz : Fz ≤ wr.heap.size := by have h1 := HF.out; have h2 := HES.out; omega
    have HFZ := Lib.hid hfz
    clear hlx hblk hfz
    go_wp2_with (fail)
    refine (number_ok (Fz := Fz) 0 _ (by decide) HFZ.out).mono ?_
    rintro en w3 ⟨z0, rfl, hz0', hB3⟩
    obtain ⟨bz, Sz, rfl, _⟩ := hz0'.root
    have hb3 := below_then HB.out hB3
    have hn3 := HN.out.grow hb3
    have HN3 := Lib.hid hn3
    have n0 := fun g : Grown w3 => heapN_cellj (HN3.out.grow g.h) (k := 0) (u := .int .i64 6) rfl
    have n1 := fun g : Grown w3 => heapN_cellj (HN3.out.grow g.h) (k := 1) (u := .int .i64 n) rfl
    have n2 := fun g : Grown w3 => heapN_cellj (HN3.out.grow g.h) (k := 2) (u := .int .i64 lo) rfl
    have n3 := fun g : Grown w3 => heapN_cellj (HN3.out.grow g.h) (k := 3) (u := .int .i64 hi) rfl
    have HZ0 := Lib.hid hz0'
    have HB3 := Lib.hid hb3
    have HL3 := Lib.hid (Lx.grow grows_tm HLX.out hB3)
    have HK3 := Lib.hid (fun (a : Addr) (ha : p7 = some a) => show Fz ≤ a.block from by have h0 := HBK.out a ha; have h1 := HF.out; have h2 := HES.out; omega)
    clear hz0' hb3 hn3 hB3 HO HB HLX HBK
    have hdv := HD.out.grow HB3.out
    have HDV := Lib.hid hdv
    have rl := fun g : Grown w3 => (HDV.out.grow g.h).rul.cell
    have lkf := fun g : Grown w3 => (HDV.out.grow g.h).map.get (i := 6) (by unfold W64; omega) ruleM_6
    have f0 := fun g : Grown w3 => cell_grow Qa.out (below_then HB3.out g.h)
    have f1 := fun g : Grown w3 => cell_grow Ra.out (below_then HB3.out g.h)
    have Pa := Lib.hid (fun g : Grown w3 => Ta.out.grow (below_then HB3.out g.h))
    have Za := Lib.hid (fun g : Grown w3 => Va.out.grow (below_then HB3.out g.h))
    clear hdv
    go_wp2_with (fail)
    refine region_pred (lk [(28, fun z_ _ => z_ = .map (some bm)), (29, fun z_ _ => z_ = .pointer (some ⟨W.heap.size, 0, none⟩)), (30, fun z_ _ => z_ = .int .i64 6), (31, fun z_ _ => z_ = .func (.func 111) #[] #[]), (32, fun z_ _ => z_ = .slice (some ⟨r, o, none⟩) 1 c), (33, fun z_ _ => z_ = .pointer (some ⟨r, o, none⟩)), (34, fun z_ _ => z_ = .agg #[.pointer (some ⟨ba, 0, none⟩), .pointer (some ⟨ca, 0, none⟩)]), (35, fun z_ _ => z_ = .slice (some ⟨r, o, none⟩) 1 c), (36, fun z_ _ => z_ = .slice (some ⟨r, o, none⟩) 1 c), (37, fun z_ _ => z_ = .int .i64 1), (38, fun z_ _ => z_ = .int .i64 0), (39, fun z_ _ => z_ = .pointer (some ⟨r, o, none⟩)), (40, fun z_ _ => z_ = .agg #[.pointer (some ⟨ba, 0, none⟩), .pointer (some ⟨ca, 0, none⟩)]), (41, fun z_ w_ => TmQ Fz w_ z_ (rl1 6 (a, a'))), (10, fun z_ w_ => TmQ Fz w_ z_ (rl1 6 (a, a')))]) (by kernel_rfl) (by kernel_rfl) (lk_steady _ ⟨steady_eq _, steady_eq _, steady_eq _, steady_eq _, steady_eq _, steady_eq _, steady_eq _, steady_eq _, steady_eq _, steady_eq _, steady_eq _, steady_eq _, steady_eq _, steady_tmq _, steady_tmq _, trivial⟩) ?_ ?_
    · refine ⟨?_, ?_, ?_, ?_, ?_, ?_, ?_, ?_, ?_, ?_, ?_, ?_, ?_, ?_, ?_, trivial⟩
      · refine ob_plain [2] rfl rfl fun aa g h => ?_
        have yy0 := seen_out (v := .pointer (some ⟨rb, 0, none⟩)) rfl rfl h.1
        have ee0 := getD_of yy0
        exact tupon_value (v := .map (some bm)) (by simp [go_sem, ee0, yy0, rl g]) (Below.refl _ _) rfl
      · refine ob_plain [4] rfl rfl fun aa g h => ?_
        have yy0 := seen_out (v := .pointer (some ⟨W.heap.size, 0, none⟩)) rfl rfl h.1
        have ee0 := getD_of yy0
        exact tupon_value (v := .pointer (some ⟨W.heap.size, 0, none⟩)) (by simp [go_sem, ee0, yy0]) (Below.refl _ _) rfl
      · refine ob_plain [29] rfl rfl fun aa g h => ?_
        obtain ⟨_, yy0, rfl⟩ := seen_in rfl h.1
        have ee0 := getD_of yy0
        exact tupon_value (v := .int .i64 6) (by simp [go_sem, ee0, yy0, n0 g]) (Below.refl _ _) rfl
      · refine ob_plain [28, 30] rfl rfl fun aa g h => ?_
        obtain ⟨_, yy0, rfl⟩ := seen_in rfl h.1
        have ee0 := getD_of yy0
        obtain ⟨_, yy1, rfl⟩ := seen_in rfl h.2.1
        have ee1 := getD_of yy1
        exact tupon_value (v := .func (.func 111) #[] #[]) (by simp [go_sem, ee0, yy0, ee1, yy1, lkf g]) (Below.refl _ _) rfl
      · refine ob_plain [1] rfl rfl fun aa g h => ?_
        have yy0 := seen_out (v := .slice (some ⟨r, o, none⟩) 1 c) rfl rfl h.1
        have ee0 := getD_of yy0
        exact tupon_value (v := .slice (some ⟨r, o, none⟩) 1 c) (by simp [go_sem, ee0, yy0]) (Below.refl _ _) rfl
      · refine ob_plain [32] rfl rfl fun aa g h => ?_
        obtain ⟨_, yy0, rfl⟩ := seen_in rfl h.1
        have ee0 := getD_of yy0
        exact tupon_value (v := .pointer (some ⟨r, o, none⟩)) (by simp [go_sem, ee0, yy0]) (Below.refl _ _) rfl
      · refine ob_plain [33] rfl rfl fun aa g h => ?_
        obtain ⟨_, yy0, rfl⟩ := seen_in rfl h.1
        have ee0 := getD_of yy0
        exact tupon_value (v := .agg #[.pointer (some ⟨ba, 0, none⟩), .pointer (some ⟨ca, 0, none⟩)]) (by simp [go_sem, ee0, yy0, f0 g, f1 g]) (Below.refl _ _) rfl
      · refine ob_plain [1] rfl rfl fun aa g h => ?_
        have yy0 := seen_out (v := .slice (some ⟨r, o, none⟩) 1 c) rfl rfl h.1
        have ee0 := getD_of yy0
        exact tupon_value (v := .slice (some ⟨r, o, none⟩) 1 c) (by simp [go_sem, ee0, yy0]) (Below.refl _ _) rfl
      · refine ob_plain [1] rfl rfl fun aa g h => ?_
        have yy0 := seen_out (v := .slice (some ⟨r, o, none⟩) 1 c) rfl rfl h.1
        have ee0 := getD_of yy0
        exact tupon_value (v := .slice (some ⟨r, o, none⟩) 1 c) (by simp [go_sem, ee0, yy0]) (Below.refl _ _) rfl
      · refine ob_plain [36] rfl rfl fun aa g h => ?_
        obtain ⟨_, yy0, rfl⟩ := seen_in rfl h.1
        have ee0 := getD_of yy0
        exact tupon_value (v := .int .i64 1) (by simp [go_sem, ee0, yy0]) (Below.refl _ _) rfl
      · refine ob_plain [37] rfl rfl fun aa g h => ?_
        obtain ⟨_, yy0, rfl⟩ := seen_in rfl h.1
        have ee0 := getD_of yy0
        exact tupon_value (v := .int .i64 0) (by simp [go_sem, ee0, yy0, wrap_0]) (Below.refl _ _) rfl
      · refine ob_plain [35, 38] rfl rfl fun aa g h => ?_
        obtain ⟨_, yy0, rfl⟩ := seen_in rfl h.1
        have ee0 := getD_of yy0
        obtain ⟨_, yy1, rfl⟩ := seen_in rfl h.2.1
        have ee1 := getD_of yy1
        exact tupon_value (v := .pointer (some ⟨r, o, none⟩)) (by simp [go_sem, ee0, yy0, ee1, yy1]) (Below.refl _ _) rfl
      · refine ob_plain [39] rfl rfl fun aa g h => ?_
        obtain ⟨_, yy0, rfl⟩ := seen_in rfl h.1
        have ee0 := getD_of yy0
        exact tupon_value (v := .agg #[.pointer (some ⟨ba, 0, none⟩), .pointer (some ⟨ca, 0, none⟩)]) (by simp [go_sem, ee0, yy0, f0 g, f1 g]) (Below.refl _ _) rfl
      · refine ob_plain [31, 34, 40] rfl rfl fun aa g h => ?_
        obtain ⟨_, yy0, rfl⟩ := seen_in rfl h.1
        have ee0 := getD_of yy0
        obtain ⟨_, yy1, rfl⟩ := seen_in rfl h.2.1
        have ee1 := getD_of yy1
        obtain ⟨_, yy2, rfl⟩ := seen_in rfl h.2.2.1
        have ee2 := getD_of yy2
        refine tupon_enter (f := 111) (args := #[.agg #[.pointer (some ⟨ba, 0, none⟩), .pointer (some ⟨ca, 0, none⟩)], .agg #[.pointer (some ⟨ba, 0, none⟩), .pointer (some ⟨ca, 0, none⟩)]]) (by simp [go_sem, ee0, yy0, ee1, yy1, ee2, yy2]) rfl ?_
        exact (rule7_ok N _ _ _ _ a a' a a' g.w (Pa.out g) (Za.out g) (Pa.out g) (Za.out g) Xa.out Ya.out Xa.out Ya.out).mono fun e w' ⟨z, he, hz, hB⟩ => ⟨_, he, hB, tmq_of hz⟩
      · refine ob_plain [41] rfl rfl fun aa g h => ?_
        obtain ⟨_, yy0, ⟨b41, rfl, hz41⟩⟩ := seen_in rfl h.1
        have ee0 := getD_of yy0
        exact tupon_value (v := .pointer (some ⟨b41, 0, none⟩)) (by simp [go_sem, ee0, yy0]) (Below.refl _ _) ⟨_, rfl, hz41⟩
    rintro w5 hB _ rfl _ rfl _ rfl _ rfl _ rfl _ rfl _ rfl _ rfl _ rfl _ rfl _ rfl _ rfl _ rfl _ ⟨b41, rfl, hz41⟩ _ ⟨b10, rfl, hz10⟩
    simp only [Act.put, List.setIfInBounds_toArray, List.set_cons_succ, List.set_cons_zero, List.filterMap_nil, finP]
    have hz10' : TmP Fz w5 (.pointer (some ⟨b10, 0, none⟩)) res2 := by have := R2.out; rw [← this]; exact hz10
    have HZ5 := Lib.hid hz10'
    have HB5 := Lib.hid hB
    clear hz10 hz41 hz10' hB rl lkf f0 f1 Pa Za
    have a0 := n0 ⟨w5, HB5.out⟩
    have a1 := n1 ⟨w5, HB5.out⟩
    have a2 := n2 ⟨w5, HB5.out⟩
    have a3 := n3 ⟨w5, HB5.out⟩
    dsimp only at a0 a1 a2 a3
    clear n0 n1 n2 n3
    go_wp2_with (fail)
    refine (simpL_ok (Fz := Fz) N 6 n lo hi p7 c7 [a] w5 (Lx.grow grows_tm HL3.out (HB5.out)) HK3.out (HZ5.out.fz) rfl (by simp; exact Xa.out)).mono ?_
    rintro en w7 ⟨z7, rfl, hz7, hB7⟩
    obtain ⟨b7, S7, rfl, _⟩ := hz7.root
    have hb7 := below_then HB3.out (below_then (HB5.out) hB7)
    have hr7 := HR.out.grow hb7
    have q0 := heapN_cellj hr7 (k := 0) (u := .pointer none) rfl
    have q1 := heapN_cellj hr7 (k := 1) (u := .pointer none) rfl
    have y0 : w7.frozen? ⟨W.heap.size + 1, 0, none⟩ = false := by simp [World.frozen?, show w7.heap[W.heap.size + 1]? = _ from hr7]
    have y1 : w7.frozen? ⟨W.heap.size + 1, 1, none⟩ = false := by simp [World.frozen?, show w7.heap[W.heap.size + 1]? = _ from hr7]
    rw [R1.out] at hz7
    obtain ⟨w8, e8, hI8, hO8⟩ := set2 hr7 (.pointer (some ⟨b7, 0, none⟩)) (.pointer (some ⟨b10, 0, none⟩))
    have x0 := heapN_cellj hI8 (k := 0) (u := .pointer (some ⟨b7, 0, none⟩)) rfl
    have x1 := heapN_cellj hI8 (k := 1) (u := .pointer (some ⟨b10, 0, none⟩)) rfl
    have hb8 : Below W.heap.size W w8 := hO8.bel (below_then HE.out hb7) (by omega) (by have := HE.out.size; have := hb7.size; omega)
    have HK1 := Lib.hid (tm_oth hr7 hO8 hz7)
    have HK2 := Lib.hid (tm_oth hr7 hO8 (HZ5.out.grow hB7))
    have HB8 := Lib.hid hb8
    rw [← e8] at x0 x1
    have HE8 := Lib.hid e8
    clear a0 a1 a2 a3 hz7 hB7 hb7 hr7 e8 hI8 hO8 hb8
    go_wp2_with (fail)
    refine bodyPost_ret (v := .agg #[.pointer (some ⟨b7, 0, none⟩), .pointer (some ⟨b10, 0, none⟩)]) (by simp [results, Tryz.results78, go_sem, x0, x1]) rfl ?_
    rw [HE8.out]
    exact ⟨_, _, rfl, HK1.out, HK2.out, HB8.out⟩
set_option maxHeartbeats 16000000 in
theorem visit2_7 (N : Int) (rb vb bm : Nat) (y : Nd) (n lo hi : Int) (c : Nat) (W : World) (r o : Nat) (ua za : Value) (a a' : Ex) (ha : W.cell? ⟨r, o, none⟩ = some ua) (ga : W.cell? ⟨r, o + 1, none⟩ = some za) (ta : TmP Fz W ua a) (sa : TmP Fz W za a') (ea : EV N a) (da : EV N a') (ub zb : Value) (b b' : Ex) (hb : W.cell? ⟨r, o + 2, none⟩ = some ub) (gb : W.cell? ⟨r, o + 3, none⟩ = some zb) (tb : TmP Fz W ub b) (sb : TmP Fz W zb b') (eb : EV N b) (db : EV N b') (hD : DvS rb vb bm y W) :
    Calls Tryz.prog 78 #[.agg #[.int .i64 7, .int .i64 n, .int .i64 lo, .int .i64 hi], .slice (some ⟨r, o, none⟩) 2 c, .pointer (some ⟨rb, 0, none⟩), .pointer (some ⟨vb, 0, none⟩)] W fun en w' => ∃ u u', en = .returned (.agg #[u, u']) ∧ TmP Fz w' u (sE ⟨7, n, lo, hi⟩ [a, b]) ∧ TmP Fz w' u' (dE y ⟨7, n, lo, hi⟩ [(a, a'), (b, b')]) ∧ Below W.heap.size W w' := by
  obtain ⟨i0, hi0, hz0, hz1, hz2⟩ := info_parts info_pt
  obtain ⟨ba, Sa, rfl, _⟩ := ta.root
  obtain ⟨ca, Ua, rfl, _⟩ := sa.root
  obtain ⟨bb, Sb, rfl, _⟩ := tb.root
  obtain ⟨cb, Ub, rfl, _⟩ := sb.root
  have hF := ta.fz
  have hE : Below W.heap.size W ((W.alloc (.cells #[.int .i64 7, .int .i64 n, .int .i64 lo, .int .i64 hi] 63)).alloc (.cells #[.pointer none, .pointer none] 96)) := allocs_below [.cells #[.int .i64 7, .int .i64 n, .int .i64 lo, .int .i64 hi] 63, .cells #[.pointer none, .pointer none] 96] W
  have hN : Blk ((W.alloc (.cells #[.int .i64 7, .int .i64 n, .int .i64 lo, .int .i64 hi] 63)).alloc (.cells #[.pointer none, .pointer none] 96)) W.heap.size (.cells #[.int .i64 7, .int .i64 n, .int .i64 lo, .int .i64 hi] 63) := allocs_at [.cells #[.int .i64 7, .int .i64 n, .int .i64 lo, .int .i64 hi] 63, .cells #[.pointer none, .pointer none] 96] W 0 _ rfl
  have hR : Blk ((W.alloc (.cells #[.int .i64 7, .int .i64 n, .int .i64 lo, .int .i64 hi] 63)).alloc (.cells #[.pointer none, .pointer none] 96)) (W.heap.size + 1) (.cells #[.pointer none, .pointer none] 96) := allocs_at [.cells #[.int .i64 7, .int .i64 n, .int .i64 lo, .int .i64 hi] 63, .cells #[.pointer none, .pointer none] 96] W 1 _ rfl
  have hEs : (((W.alloc (.cells #[.int .i64 7, .int .i64 n, .int .i64 lo, .int .i64 hi] 63)).alloc (.cells #[.pointer none, .pointer none] 96))).heap.size = W.heap.size + 1 + 1 := by rw [alloc_sz, alloc_sz]
  have qa := cell_grow ha hE
  have ra := cell_grow ga hE
  have Ta := Lib.hid (ta.grow hE)
  have Va := Lib.hid (sa.grow hE)
  have Xa := Lib.hid ea
  have Ya := Lib.hid da
  clear ha ga ta sa ea da
  have qb := cell_grow hb hE
  have rb := cell_grow gb hE
  have Tb := Lib.hid (tb.grow hE)
  have Vb := Lib.hid (sb.grow hE)
  have Xb := Lib.hid eb
  have Yb := Lib.hid db
  clear hb gb tb sb eb db
  have HD := Lib.hid (hD.grow hE)
  obtain ⟨E, hEE⟩ : ∃ E, ((W.alloc (.cells #[.int .i64 7, .int .i64 n, .int .i64 lo, .int .i64 hi] 63)).alloc (.cells #[.pointer none, .pointer none] 96)) = E := ⟨_, rfl⟩
  rw [hEE] at hE hN hR hEs HD qa ra Ta Va qb rb Tb Vb
  have HE := Lib.hid hE
  have HEE := Lib.hid hEE
  have HES := Lib.hid hEs
  have HF := Lib.hid hF
  have HN := Lib.hid hN
  have HR := Lib.hid hR
  have Qa := Lib.hid qa
  have Ra := Lib.hid ra
  clear qa ra
  have Qb := Lib.hid qb
  have Rb := Lib.hid rb
  clear qb rb
  have HW0 := Lib.hid (show OwnT Fz E.heap.size E (.slice none 0 0) [] [] from ⟨World.ownsRow_nil _ _ _ _, fun k u x h => by simp at h⟩)
  generalize hres1 : sE ⟨7, n, lo, hi⟩ [a, b] = res1
  generalize hres2 : dE y ⟨7, n, lo, hi⟩ [(a, a'), (b, b')] = res2
  have R1 := Lib.hid hres1
  have R2 := Lib.hid hres2
  clear hE hEE hD hF hEs hres1 hres2 hN hR
  go_enter Tryz.func78, Tryz.ntmps78
  go_wp2_with (fail)
  rw [HEE.out]
  go_loopw [7, 13] (fun v7 i wr => ∃ (j : Nat) (us : List Value), i = .int .i64 j ∧ j ≤ 2 ∧ Hid (OwnT Fz E.heap.size wr v7 (([a, b] : List Ex).take j) us) ∧ Hid (Below E.heap.size E wr)) (fun v7 i _ => 2 - (intOf i).toNat)
  case atStart => exact ⟨0, [], rfl, Nat.zero_le _, HW0, Lib.hid (Below.refl _ _)⟩
  case round =>
    clear HW0
    obtain ⟨j, us, rfl, hj, HO, HB⟩ := hrel
    obtain ⟨p7, c7, rfl⟩ := own_slice HO.out.row
    have htl : (([a, b] : List Ex).take j).length = j := by rw [List.length_take]; simp; omega
    rw [htl] at HO ⊢
    have hbs := HB.out.size
    by_cases h0 : j = 0
    · subst h0
      have r0 : wr.cell? ⟨r, o, none⟩ = some (.pointer (some ⟨ba, 0, none⟩)) := cell_grow Qa.out HB.out
      have r1 : wr.cell? ⟨r, o + 1, none⟩ = some (.pointer (some ⟨ca, 0, none⟩)) := cell_grow Ra.out HB.out
      have hA : Below wr.heap.size wr ((wr.alloc (.cells #[.pointer (some ⟨ba, 0, none⟩), .pointer (some ⟨ca, 0, none⟩)] 96)).alloc (.cells #[.pointer (some ⟨ba, 0, none⟩)] 69)) := ((Below.refl _ _).alloc (Nat.le_refl _) _).alloc (by rw [alloc_sz]; omega) _
      have HO9 := Lib.hid (HO.out.grow hA)
      have HB9 := Lib.hid (below_then HB.out hA)
      have hzk : ∀ W', ((wr.alloc (.cells #[.pointer (some ⟨ba, 0, none⟩), .pointer (some ⟨ca, 0, none⟩)] 96)).alloc (.cells #[.pointer (some ⟨ba, 0, none⟩)] 69)).grownBy W' (Value.slice p7 0 c7).ownBlock → TmP Fz W' (.pointer (some ⟨ba, 0, none⟩)) a := fun W' h => Ta.out.grow (Below.grown HB9.out h HB9.out.size (fun q hq => (HO9.out.row.lt q hq).1))
      have HZK := Lib.hid hzk
      clear hA hzk HO HB
      go_wp2_with (at_builtin; refine wpList_append_own_at _ rfl (.tmp 17) (.tmp 20) 86 rfl E.heap.size 69 i0 (.pointer none) 1 8 Tryz.underlying86 hi0 hz0 hz1 hz2 rfl (by decide) (.slice p7 0 c7) 0 _ rfl (by have := HO9.out.row; exact this) ⟨wr.heap.size + 1, 0, none⟩ 1 1 [.pointer (some ⟨ba, 0, none⟩)] rfl rfl (by have := one_newN (wr.alloc (.cells #[.pointer (some ⟨ba, 0, none⟩), .pointer (some ⟨ca, 0, none⟩)] 96)) (.pointer (some ⟨ba, 0, none⟩)) 69; rw [alloc_sz] at this; exact this) (by simp [Value.oneCell']) (by unfold maxLen; omega) (by omega) (by rw [alloc_sz, alloc_sz]; omega) ?_)
      intro v' w10 hown hgr _ hat
      obtain ⟨p6, c6, rfl⟩ := own_slice hown
      have hpush := HO9.out.push (x := a) (v' := .slice p6 (0 + 1) c6) (W' := w10) HZK.out hown hgr (by rw [alloc_sz, alloc_sz]; exact hat)
      have hb10 : Below E.heap.size E w10 := Below.grown HB9.out hgr HB9.out.size (fun q hq => (HO9.out.row.lt q hq).1)
      have HP := Lib.hid hpush
      have HB10 := Lib.hid hb10
      clear hown hgr hat hpush hb10 HO9 HZK HB9 r0 r1
      go_wp2_with (fail)
      go_roundw
      case rel => exact ⟨0 + 1, _, by go_num, by omega, HP, HB10⟩
      case measure => simp [intOf]
    by_cases h1 : j = 1
    · subst h1
      have r0 : wr.cell? ⟨r, o + 2, none⟩ = some (.pointer (some ⟨bb, 0, none⟩)) := cell_grow Qb.out HB.out
      have r1 : wr.cell? ⟨r, o + 3, none⟩ = some (.pointer (some ⟨cb, 0, none⟩)) := cell_grow Rb.out HB.out
      have hA : Below wr.heap.size wr ((wr.alloc (.cells #[.pointer (some ⟨bb, 0, none⟩), .pointer (some ⟨cb, 0, none⟩)] 96)).alloc (.cells #[.pointer (some ⟨bb, 0, none⟩)] 69)) := ((Below.refl _ _).alloc (Nat.le_refl _) _).alloc (by rw [alloc_sz]; omega) _
      have HO9 := Lib.hid (HO.out.grow hA)
      have HB9 := Lib.hid (below_then HB.out hA)
      have hzk : ∀ W', ((wr.alloc (.cells #[.pointer (some ⟨bb, 0, none⟩), .pointer (some ⟨cb, 0, none⟩)] 96)).alloc (.cells #[.pointer (some ⟨bb, 0, none⟩)] 69)).grownBy W' (Value.slice p7 1 c7).ownBlock → TmP Fz W' (.pointer (some ⟨bb, 0, none⟩)) b := fun W' h => Tb.out.grow (Below.grown HB9.out h HB9.out.size (fun q hq => (HO9.out.row.lt q hq).1))
      have HZK := Lib.hid hzk
      clear hA hzk HO HB
      go_wp2_with (at_builtin; refine wpList_append_own_at _ rfl (.tmp 17) (.tmp 20) 86 rfl E.heap.size 69 i0 (.pointer none) 1 8 Tryz.underlying86 hi0 hz0 hz1 hz2 rfl (by decide) (.slice p7 1 c7) 1 _ rfl (by have := HO9.out.row; exact this) ⟨wr.heap.size + 1, 0, none⟩ 1 1 [.pointer (some ⟨bb, 0, none⟩)] rfl rfl (by have := one_newN (wr.alloc (.cells #[.pointer (some ⟨bb, 0, none⟩), .pointer (some ⟨cb, 0, none⟩)] 96)) (.pointer (some ⟨bb, 0, none⟩)) 69; rw [alloc_sz] at this; exact this) (by simp [Value.oneCell']) (by unfold maxLen; omega) (by omega) (by rw [alloc_sz, alloc_sz]; omega) ?_)
      intro v' w10 hown hgr _ hat
      obtain ⟨p6, c6, rfl⟩ := own_slice hown
      have hpush := HO9.out.push (x := b) (v' := .slice p6 (1 + 1) c6) (W' := w10) HZK.out hown hgr (by rw [alloc_sz, alloc_sz]; exact hat)
      have hb10 : Below E.heap.size E w10 := Below.grown HB9.out hgr HB9.out.size (fun q hq => (HO9.out.row.lt q hq).1)
      have HP := Lib.hid hpush
      have HB10 := Lib.hid hb10
      clear hown hgr hat hpush hb10 HO9 HZK HB9 r0 r1
      go_wp2_with (fail)
      go_roundw
      case rel => exact ⟨1 + 1, _, by go_num, by omega, HP, HB10⟩
      case measure => simp [intOf]
    obtain rfl : j = 2 := by omega
    have hlx := HO.out.lx (by simp [maxLen])
    have hblk := HO.out.blk rfl
    have htk : ([a, b] : List Ex).take 2 = [a, b] := rfl
    rw [htk] at hlx
    clear h0 h1 htk htl
    have HLX := Lib.hid hlx
    have HBK := Lib.hid hblk
    have hfz : Fz ≤ wr.heap.size := by have h1 := HF.out; have h2 := HES.out; omega
    have HFZ := Lib.hid hfz
    clear hlx hblk hfz
    go_wp2_with (fail)
    refine (number_ok (Fz := Fz) 0 _ (by decide) HFZ.out).mono ?_
    rintro en w3 ⟨z0, rfl, hz0', hB3⟩
    obtain ⟨bz, Sz, rfl, _⟩ := hz0'.root
    have hb3 := below_then HB.out hB3
    have hn3 := HN.out.grow hb3
    have HN3 := Lib.hid hn3
    have n0 := fun g : Grown w3 => heapN_cellj (HN3.out.grow g.h) (k := 0) (u := .int .i64 7) rfl
    have n1 := fun g : Grown w3 => heapN_cellj (HN3.out.grow g.h) (k := 1) (u := .int .i64 n) rfl
    have n2 := fun g : Grown w3 => heapN_cellj (HN3.out.grow g.h) (k := 2) (u := .int .i64 lo) rfl
    have n3 := fun g : Grown w3 => heapN_cellj (HN3.out.grow g.h) (k := 3) (u := .int .i64 hi) rfl
    have HZ0 := Lib.hid hz0'
    have HB3 := Lib.hid hb3
    have HL3 := Lib.hid (Lx.grow grows_tm HLX.out hB3)
    have HK3 := Lib.hid (fun (a : Addr) (ha : p7 = some a) => show Fz ≤ a.block from by have h0 := HBK.out a ha; have h1 := HF.out; have h2 := HES.out; omega)
    clear hz0' hb3 hn3 hB3 HO HB HLX HBK
    have hdv := HD.out.grow HB3.out
    have HDV := Lib.hid hdv
    have rl := fun g : Grown w3 => (HDV.out.grow g.h).rul.cell
    have lkf := fun g : Grown w3 => (HDV.out.grow g.h).map.get (i := 7) (by unfold W64; omega) ruleM_7
    have f0 := fun g : Grown w3 => cell_grow Qa.out (below_then HB3.out g.h)
    have f1 := fun g : Grown w3 => cell_grow Ra.out (below_then HB3.out g.h)
    have Pa := Lib.hid (fun g : Grown w3 => Ta.out.grow (below_then HB3.out g.h))
    have Za := Lib.hid (fun g : Grown w3 => Va.out.grow (below_then HB3.out g.h))
    have f2 := fun g : Grown w3 => cell_grow Qb.out (below_then HB3.out g.h)
    have f3 := fun g : Grown w3 => cell_grow Rb.out (below_then HB3.out g.h)
    have Pb := Lib.hid (fun g : Grown w3 => Tb.out.grow (below_then HB3.out g.h))
    have Zb := Lib.hid (fun g : Grown w3 => Vb.out.grow (below_then HB3.out g.h))
    clear hdv
    go_wp2_with (fail)
    refine region_pred (lk [(28, fun z_ _ => z_ = .map (some bm)), (29, fun z_ _ => z_ = .pointer (some ⟨W.heap.size, 0, none⟩)), (30, fun z_ _ => z_ = .int .i64 7), (31, fun z_ _ => z_ = .func (.func 105) #[] #[]), (32, fun z_ _ => z_ = .slice (some ⟨r, o, none⟩) 2 c), (33, fun z_ _ => z_ = .pointer (some ⟨r, o, none⟩)), (34, fun z_ _ => z_ = .agg #[.pointer (some ⟨ba, 0, none⟩), .pointer (some ⟨ca, 0, none⟩)]), (35, fun z_ _ => z_ = .slice (some ⟨r, o, none⟩) 2 c), (36, fun z_ _ => z_ = .slice (some ⟨r, o, none⟩) 2 c), (37, fun z_ _ => z_ = .int .i64 2), (38, fun z_ _ => z_ = .int .i64 1), (39, fun z_ _ => z_ = .pointer (some ⟨r, o + 2, none⟩)), (40, fun z_ _ => z_ = .agg #[.pointer (some ⟨bb, 0, none⟩), .pointer (some ⟨cb, 0, none⟩)]), (41, fun z_ w_ => TmQ Fz w_ z_ (rl2 7 (a, a') (b, b'))), (10, fun z_ w_ => TmQ Fz w_ z_ (rl2 7 (a, a') (b, b')))]) (by kernel_rfl) (by kernel_rfl) (lk_steady _ ⟨steady_eq _, steady_eq _, steady_eq _, steady_eq _, steady_eq _, steady_eq _, steady_eq _, steady_eq _, steady_eq _, steady_eq _, steady_eq _, steady_eq _, steady_eq _, steady_tmq _, steady_tmq _, trivial⟩) ?_ ?_
    · refine ⟨?_, ?_, ?_, ?_, ?_, ?_, ?_, ?_, ?_, ?_, ?_, ?_, ?_, ?_, ?_, trivial⟩
      · refine ob_plain [2] rfl rfl fun aa g h => ?_
        have yy0 := seen_out (v := .pointer (some ⟨rb, 0, none⟩)) rfl rfl h.1
        have ee0 := getD_of yy0
        exact tupon_value (v := .map (some bm)) (by simp [go_sem, ee0, yy0, rl g]) (Below.refl _ _) rfl
      · refine ob_plain [4] rfl rfl fun aa g h => ?_
        have yy0 := seen_out (v := .pointer (some ⟨W.heap.size, 0, none⟩)) rfl rfl h.1
        have ee0 := getD_of yy0
        exact tupon_value (v := .pointer (some ⟨W.heap.size, 0, none⟩)) (by simp [go_sem, ee0, yy0]) (Below.refl _ _) rfl
      · refine ob_plain [29] rfl rfl fun aa g h => ?_
        obtain ⟨_, yy0, rfl⟩ := seen_in rfl h.1
        have ee0 := getD_of yy0
        exact tupon_value (v := .int .i64 7) (by simp [go_sem, ee0, yy0, n0 g]) (Below.refl _ _) rfl
      · refine ob_plain [28, 30] rfl rfl fun aa g h => ?_
        obtain ⟨_, yy0, rfl⟩ := seen_in rfl h.1
        have ee0 := getD_of yy0
        obtain ⟨_, yy1, rfl⟩ := seen_in rfl h.2.1
        have ee1 := getD_of yy1
        exact tupon_value (v := .func (.func 105) #[] #[]) (by simp [go_sem, ee0, yy0, ee1, yy1, lkf g]) (Below.refl _ _) rfl
      · refine ob_plain [1] rfl rfl fun aa g h => ?_
        have yy0 := seen_out (v := .slice (some ⟨r, o, none⟩) 2 c) rfl rfl h.1
        have ee0 := getD_of yy0
        exact tupon_value (v := .slice (some ⟨r, o, none⟩) 2 c) (by simp [go_sem, ee0, yy0]) (Below.refl _ _) rfl
      · refine ob_plain [32] rfl rfl fun aa g h => ?_
        obtain ⟨_, yy0, rfl⟩ := seen_in rfl h.1
        have ee0 := getD_of yy0
        exact tupon_value (v := .pointer (some ⟨r, o, none⟩)) (by simp [go_sem, ee0, yy0]) (Below.refl _ _) rfl
      · refine ob_plain [33] rfl rfl fun aa g h => ?_
        obtain ⟨_, yy0, rfl⟩ := seen_in rfl h.1
        have ee0 := getD_of yy0
        exact tupon_value (v := .agg #[.pointer (some ⟨ba, 0, none⟩), .pointer (some ⟨ca, 0, none⟩)]) (by simp [go_sem, ee0, yy0, f0 g, f1 g]) (Below.refl _ _) rfl
      · refine ob_plain [1] rfl rfl fun aa g h => ?_
        have yy0 := seen_out (v := .slice (some ⟨r, o, none⟩) 2 c) rfl rfl h.1
        have ee0 := getD_of yy0
        exact tupon_value (v := .slice (some ⟨r, o, none⟩) 2 c) (by simp [go_sem, ee0, yy0]) (Below.refl _ _) rfl
      · refine ob_plain [1] rfl rfl fun aa g h => ?_
        have yy0 := seen_out (v := .slice (some ⟨r, o, none⟩) 2 c) rfl rfl h.1
        have ee0 := getD_of yy0
        exact tupon_value (v := .slice (some ⟨r, o, none⟩) 2 c) (by simp [go_sem, ee0, yy0]) (Below.refl _ _) rfl
      · refine ob_plain [36] rfl rfl fun aa g h => ?_
        obtain ⟨_, yy0, rfl⟩ := seen_in rfl h.1
        have ee0 := getD_of yy0
        exact tupon_value (v := .int .i64 2) (by simp [go_sem, ee0, yy0]) (Below.refl _ _) rfl
      · refine ob_plain [37] rfl rfl fun aa g h => ?_
        obtain ⟨_, yy0, rfl⟩ := seen_in rfl h.1
        have ee0 := getD_of yy0
        exact tupon_value (v := .int .i64 1) (by simp [go_sem, ee0, yy0, wrap_1]) (Below.refl _ _) rfl
      · refine ob_plain [35, 38] rfl rfl fun aa g h => ?_
        obtain ⟨_, yy0, rfl⟩ := seen_in rfl h.1
        have ee0 := getD_of yy0
        obtain ⟨_, yy1, rfl⟩ := seen_in rfl h.2.1
        have ee1 := getD_of yy1
        exact tupon_value (v := .pointer (some ⟨r, o + 2, none⟩)) (by simp [go_sem, ee0, yy0, ee1, yy1]) (Below.refl _ _) rfl
      · refine ob_plain [39] rfl rfl fun aa g h => ?_
        obtain ⟨_, yy0, rfl⟩ := seen_in rfl h.1
        have ee0 := getD_of yy0
        exact tupon_value (v := .agg #[.pointer (some ⟨bb, 0, none⟩), .pointer (some ⟨cb, 0, none⟩)]) (by simp [go_sem, ee0, yy0, f2 g, f3 g]) (Below.refl _ _) rfl
      · refine ob_plain [31, 34, 40] rfl rfl fun aa g h => ?_
        obtain ⟨_, yy0, rfl⟩ := seen_in rfl h.1
        have ee0 := getD_of yy0
        obtain ⟨_, yy1, rfl⟩ := seen_in rfl h.2.1
        have ee1 := getD_of yy1
        obtain ⟨_, yy2, rfl⟩ := seen_in rfl h.2.2.1
        have ee2 := getD_of yy2
        refine tupon_enter (f := 105) (args := #[.agg #[.pointer (some ⟨ba, 0, none⟩), .pointer (some ⟨ca, 0, none⟩)], .agg #[.pointer (some ⟨bb, 0, none⟩), .pointer (some ⟨cb, 0, none⟩)]]) (by simp [go_sem, ee0, yy0, ee1, yy1, ee2, yy2]) rfl ?_
        exact (rule2_ok N _ _ _ _ a a' b b' g.w (Pa.out g) (Za.out g) (Pb.out g) (Zb.out g) Xa.out Ya.out Xb.out Yb.out).mono fun e w' ⟨z, he, hz, hB⟩ => ⟨_, he, hB, tmq_of hz⟩
      · refine ob_plain [41] rfl rfl fun aa g h => ?_
        obtain ⟨_, yy0, ⟨b41, rfl, hz41⟩⟩ := seen_in rfl h.1
        have ee0 := getD_of yy0
        exact tupon_value (v := .pointer (some ⟨b41, 0, none⟩)) (by simp [go_sem, ee0, yy0]) (Below.refl _ _) ⟨_, rfl, hz41⟩
    rintro w5 hB _ rfl _ rfl _ rfl _ rfl _ rfl _ rfl _ rfl _ rfl _ rfl _ rfl _ rfl _ rfl _ rfl _ ⟨b41, rfl, hz41⟩ _ ⟨b10, rfl, hz10⟩
    simp only [Act.put, List.setIfInBounds_toArray, List.set_cons_succ, List.set_cons_zero, List.filterMap_nil, finP]
    have hz10' : TmP Fz w5 (.pointer (some ⟨b10, 0, none⟩)) res2 := by have := R2.out; rw [← this]; exact hz10
    have HZ5 := Lib.hid hz10'
    have HB5 := Lib.hid hB
    clear hz10 hz41 hz10' hB rl lkf f0 f1 f2 f3 Pa Za Pb Zb
    have a0 := n0 ⟨w5, HB5.out⟩
    have a1 := n1 ⟨w5, HB5.out⟩
    have a2 := n2 ⟨w5, HB5.out⟩
    have a3 := n3 ⟨w5, HB5.out⟩
    dsimp only at a0 a1 a2 a3
    clear n0 n1 n2 n3
    go_wp2_with (fail)
    refine (simpL_ok (Fz := Fz) N 7 n lo hi p7 c7 [a, b] w5 (Lx.grow grows_tm HL3.out (HB5.out)) HK3.out (HZ5.out.fz) rfl (by simp; exact ⟨Xa.out, Xb.out⟩)).mono ?_
    rintro en w7 ⟨z7, rfl, hz7, hB7⟩
    obtain ⟨b7, S7, rfl, _⟩ := hz7.root
    have hb7 := below_then HB3.out (below_then (HB5.out) hB7)
    have hr7 := HR.out.grow hb7
    have q0 := heapN_cellj hr7 (k := 0) (u := .pointer none) rfl
    have q1 := heapN_cellj hr7 (k := 1) (u := .pointer none) rfl
    have y0 : w7.frozen? ⟨W.heap.size + 1, 0, none⟩ = false := by simp [World.frozen?, show w7.heap[W.heap.size + 1]? = _ from hr7]
    have y1 : w7.frozen? ⟨W.heap.size + 1, 1, none⟩ = false := by simp [World.frozen?, show w7.heap[W.heap.size + 1]? = _ from hr7]
    rw [R1.out] at hz7
    obtain ⟨w8, e8, hI8, hO8⟩ := set2 hr7 (.pointer (some ⟨b7, 0, none⟩)) (.pointer (some ⟨b10, 0, none⟩))
    have x0 := heapN_cellj hI8 (k := 0) (u := .pointer (some ⟨b7, 0, none⟩)) rfl
    have x1 := heapN_cellj hI8 (k := 1) (u := .pointer (some ⟨b10, 0, none⟩)) rfl
    have hb8 : Below W.heap.size W w8 := hO8.bel (below_then HE.out hb7) (by omega) (by have := HE.out.size; have := hb7.size; omega)
    have HK1 := Lib.hid (tm_oth hr7 hO8 hz7)
    have HK2 := Lib.hid (tm_oth hr7 hO8 (HZ5.out.grow hB7))
    have HB8 := Lib.hid hb8
    rw [← e8] at x0 x1
    have HE8 := Lib.hid e8
    clear a0 a1 a2 a3 hz7 hB7 hb7 hr7 e8 hI8 hO8 hb8
    go_wp2_with (fail)
    refine bodyPost_ret (v := .agg #[.pointer (some ⟨b7, 0, none⟩), .pointer (some ⟨b10, 0, none⟩)]) (by simp [results, Tryz.results78, go_sem, x0, x1]) rfl ?_
    rw [HE8.out]
    exact ⟨_, _, rfl, HK1.out, HK2.out, HB8.out⟩
set_option maxHeartbeats 16000000 in
theorem visit2_8 (N : Int) (rb vb bm : Nat) (y : Nd) (n lo hi : Int) (c : Nat) (W : World) (r o : Nat) (ua za : Value) (a a' : Ex) (ha : W.cell? ⟨r, o, none⟩ = some ua) (ga : W.cell? ⟨r, o + 1, none⟩ = some za) (ta : TmP Fz W ua a) (sa : TmP Fz W za a') (ea : EV N a) (da : EV N a') (ub zb : Value) (b b' : Ex) (hb : W.cell? ⟨r, o + 2, none⟩ = some ub) (gb : W.cell? ⟨r, o + 3, none⟩ = some zb) (tb : TmP Fz W ub b) (sb : TmP Fz W zb b') (eb : EV N b) (db : EV N b') (hD : DvS rb vb bm y W) :
    Calls Tryz.prog 78 #[.agg #[.int .i64 8, .int .i64 n, .int .i64 lo, .int .i64 hi], .slice (some ⟨r, o, none⟩) 2 c, .pointer (some ⟨rb, 0, none⟩), .pointer (some ⟨vb, 0, none⟩)] W fun en w' => ∃ u u', en = .returned (.agg #[u, u']) ∧ TmP Fz w' u (sE ⟨8, n, lo, hi⟩ [a, b]) ∧ TmP Fz w' u' (dE y ⟨8, n, lo, hi⟩ [(a, a'), (b, b')]) ∧ Below W.heap.size W w' := by
  obtain ⟨i0, hi0, hz0, hz1, hz2⟩ := info_parts info_pt
  obtain ⟨ba, Sa, rfl, _⟩ := ta.root
  obtain ⟨ca, Ua, rfl, _⟩ := sa.root
  obtain ⟨bb, Sb, rfl, _⟩ := tb.root
  obtain ⟨cb, Ub, rfl, _⟩ := sb.root
  have hF := ta.fz
  have hE : Below W.heap.size W ((W.alloc (.cells #[.int .i64 8, .int .i64 n, .int .i64 lo, .int .i64 hi] 63)).alloc (.cells #[.pointer none, .pointer none] 96)) := allocs_below [.cells #[.int .i64 8, .int .i64 n, .int .i64 lo, .int .i64 hi] 63, .cells #[.pointer none, .pointer none] 96] W
  have hN : Blk ((W.alloc (.cells #[.int .i64 8, .int .i64 n, .int .i64 lo, .int .i64 hi] 63)).alloc (.cells #[.pointer none, .pointer none] 96)) W.heap.size (.cells #[.int .i64 8, .int .i64 n, .int .i64 lo, .int .i64 hi] 63) := allocs_at [.cells #[.int .i64 8, .int .i64 n, .int .i64 lo, .int .i64 hi] 63, .cells #[.pointer none, .pointer none] 96] W 0 _ rfl
  have hR : Blk ((W.alloc (.cells #[.int .i64 8, .int .i64 n, .int .i64 lo, .int .i64 hi] 63)).alloc (.cells #[.pointer none, .pointer none] 96)) (W.heap.size + 1) (.cells #[.pointer none, .pointer none] 96) := allocs_at [.cells #[.int .i64 8, .int .i64 n, .int .i64 lo, .int .i64 hi] 63, .cells #[.pointer none, .pointer none] 96] W 1 _ rfl
  have hEs : (((W.alloc (.cells #[.int .i64 8, .int .i64 n, .int .i64 lo, .int .i64 hi] 63)).alloc (.cells #[.pointer none, .pointer none] 96))).heap.size = W.heap.size + 1 + 1 := by rw [alloc_sz, alloc_sz]
  have qa := cell_grow ha hE
  have ra := cell_grow ga hE
  have Ta := Lib.hid (ta.grow hE)
  have Va := Lib.hid (sa.grow hE)
  have Xa := Lib.hid ea
  have Ya := Lib.hid da
  clear ha ga ta sa ea da
  have qb := cell_grow hb hE
  have rb := cell_grow gb hE
  have Tb := Lib.hid (tb.grow hE)
  have Vb := Lib.hid (sb.grow hE)
  have Xb := Lib.hid eb
  have Yb := Lib.hid db
  clear hb gb tb sb eb db
  have HD := Lib.hid (hD.grow hE)
  obtain ⟨E, hEE⟩ : ∃ E, ((W.alloc (.cells #[.int .i64 8, .int .i64 n, .int .i64 lo, .int .i64 hi] 63)).alloc (.cells #[.pointer none, .pointer none] 96)) = E := ⟨_, rfl⟩
  rw [hEE] at hE hN hR hEs HD qa ra Ta Va qb rb Tb Vb
  have HE := Lib.hid hE
  have HEE := Lib.hid hEE
  have HES := Lib.hid hEs
  have HF := Lib.hid hF
  have HN := Lib.hid hN
  have HR := Lib.hid hR
  have Qa := Lib.hid qa
  have Ra := Lib.hid ra
  clear qa ra
  have Qb := Lib.hid qb
  have Rb := Lib.hid rb
  clear qb rb
  have HW0 := Lib.hid (show OwnT Fz E.heap.size E (.slice none 0 0) [] [] from ⟨World.ownsRow_nil _ _ _ _, fun k u x h => by simp at h⟩)
  generalize hres1 : sE ⟨8, n, lo, hi⟩ [a, b] = res1
  generalize hres2 : dE y ⟨8, n, lo, hi⟩ [(a, a'), (b, b')] = res2
  have R1 := Lib.hid hres1
  have R2 := Lib.hid hres2
  clear hE hEE hD hF hEs hres1 hres2 hN hR
  go_enter Tryz.func78, Tryz.ntmps78
  go_wp2_with (fail)
  rw [HEE.out]
  go_loopw [7, 13] (fun v7 i wr => ∃ (j : Nat) (us : List Value), i = .int .i64 j ∧ j ≤ 2 ∧ Hid (OwnT Fz E.heap.size wr v7 (([a, b] : List Ex).take j) us) ∧ Hid (Below E.heap.size E wr)) (fun v7 i _ => 2 - (intOf i).toNat)
  case atStart => exact ⟨0, [], rfl, Nat.zero_le _, HW0, Lib.hid (Below.refl _ _)⟩
  case round =>
    clear HW0
    obtain ⟨j, us, rfl, hj, HO, HB⟩ := hrel
    obtain ⟨p7, c7, rfl⟩ := own_slice HO.out.row
    have htl : (([a, b] : List Ex).take j).length = j := by rw [List.length_take]; simp; omega
    rw [htl] at HO ⊢
    have hbs := HB.out.size
    by_cases h0 : j = 0
    · subst h0
      have r0 : wr.cell? ⟨r, o, none⟩ = some (.pointer (some ⟨ba, 0, none⟩)) := cell_grow Qa.out HB.out
      have r1 : wr.cell? ⟨r, o + 1, none⟩ = some (.pointer (some ⟨ca, 0, none⟩)) := cell_grow Ra.out HB.out
      have hA : Below wr.heap.size wr ((wr.alloc (.cells #[.pointer (some ⟨ba, 0, none⟩), .pointer (some ⟨ca, 0, none⟩)] 96)).alloc (.cells #[.pointer (some ⟨ba, 0, none⟩)] 69)) := ((Below.refl _ _).alloc (Nat.le_refl _) _).alloc (by rw [alloc_sz]; omega) _
      have HO9 := Lib.hid (HO.out.grow hA)
      have HB9 := Lib.hid (below_then HB.out hA)
      have hzk : ∀ W', ((wr.alloc (.cells #[.pointer (some ⟨ba, 0, none⟩), .pointer (some ⟨ca, 0, none⟩)] 96)).alloc (.cells #[.pointer (some ⟨ba, 0, none⟩)] 69)).grownBy W' (Value.slice p7 0 c7).ownBlock → TmP Fz W' (.pointer (some ⟨ba, 0, none⟩)) a := fun W' h => Ta.out.grow (Below.grown HB9.out h HB9.out.size (fun q hq => (HO9.out.row.lt q hq).1))
      have HZK := Lib.hid hzk
      clear hA hzk HO HB
      go_wp2_with (at_builtin; refine wpList_append_own_at _ rfl (.tmp 17) (.tmp 20) 86 rfl E.heap.size 69 i0 (.pointer none) 1 8 Tryz.underlying86 hi0 hz0 hz1 hz2 rfl (by decide) (.slice p7 0 c7) 0 _ rfl (by have := HO9.out.row; exact this) ⟨wr.heap.size + 1, 0, none⟩ 1 1 [.pointer (some ⟨ba, 0, none⟩)] rfl rfl (by have := one_newN (wr.alloc (.cells #[.pointer (some ⟨ba, 0, none⟩), .pointer (some ⟨ca, 0, none⟩)] 96)) (.pointer (some ⟨ba, 0, none⟩)) 69; rw [alloc_sz] at this; exact this) (by simp [Value.oneCell']) (by unfold maxLen; omega) (by omega) (by rw [alloc_sz, alloc_sz]; omega) ?_)
      intro v' w10 hown hgr _ hat
      obtain ⟨p6, c6, rfl⟩ := own_slice hown
      have hpush := HO9.out.push (x := a) (v' := .slice p6 (0 + 1) c6) (W' := w10) HZK.out hown hgr (by rw [alloc_sz, alloc_sz]; exact hat)
      have hb10 : Below E.heap.size E w10 := Below.grown HB9.out hgr HB9.out.size (fun q hq => (HO9.out.row.lt q hq).1)
      have HP := Lib.hid hpush
      have HB10 := Lib.hid hb10
      clear hown hgr hat hpush hb10 HO9 HZK HB9 r0 r1
      go_wp2_with (fail)
      go_roundw
      case rel => exact ⟨0 + 1, _, by go_num, by omega, HP, HB10⟩
      case measure => simp [intOf]
    by_cases h1 : j = 1
    · subst h1
      have r0 : wr.cell? ⟨r, o + 2, none⟩ = some (.pointer (some ⟨bb, 0, none⟩)) := cell_grow Qb.out HB.out
      have r1 : wr.cell? ⟨r, o + 3, none⟩ = some (.pointer (some ⟨cb, 0, none⟩)) := cell_grow Rb.out HB.out
      have hA : Below wr.heap.size wr ((wr.alloc (.cells #[.pointer (some ⟨bb, 0, none⟩), .pointer (some ⟨cb, 0, none⟩)] 96)).alloc (.cells #[.pointer (some ⟨bb, 0, none⟩)] 69)) := ((Below.refl _ _).alloc (Nat.le_refl _) _).alloc (by rw [alloc_sz]; omega) _
      have HO9 := Lib.hid (HO.out.grow hA)
      have HB9 := Lib.hid (below_then HB.out hA)
      have hzk : ∀ W', ((wr.alloc (.cells #[.pointer (some ⟨bb, 0, none⟩), .pointer (some ⟨cb, 0, none⟩)] 96)).alloc (.cells #[.pointer (some ⟨bb, 0, none⟩)] 69)).grownBy W' (Value.slice p7 1 c7).ownBlock → TmP Fz W' (.pointer (some ⟨bb, 0, none⟩)) b := fun W' h => Tb.out.grow (Below.grown HB9.out h HB9.out.size (fun q hq => (HO9.out.row.lt q hq).1))
      have HZK := Lib.hid hzk
      clear hA hzk HO HB
      go_wp2_with (at_builtin; refine wpList_append_own_at _ rfl (.tmp 17) (.tmp 20) 86 rfl E.heap.size 69 i0 (.pointer none) 1 8 Tryz.underlying86 hi0 hz0 hz1 hz2 rfl (by decide) (.slice p7 1 c7) 1 _ rfl (by have := HO9.out.row; exact this) ⟨wr.heap.size + 1, 0, none⟩ 1 1 [.pointer (some ⟨bb, 0, none⟩)] rfl rfl (by have := one_newN (wr.alloc (.cells #[.pointer (some ⟨bb, 0, none⟩), .pointer (some ⟨cb, 0, none⟩)] 96)) (.pointer (some ⟨bb, 0, none⟩)) 69; rw [alloc_sz] at this; exact this) (by simp [Value.oneCell']) (by unfold maxLen; omega) (by omega) (by rw [alloc_sz, alloc_sz]; omega) ?_)
      intro v' w10 hown hgr _ hat
      obtain ⟨p6, c6, rfl⟩ := own_slice hown
      have hpush := HO9.out.push (x := b) (v' := .slice p6 (1 + 1) c6) (W' := w10) HZK.out hown hgr (by rw [alloc_sz, alloc_sz]; exact hat)
      have hb10 : Below E.heap.size E w10 := Below.grown HB9.out hgr HB9.out.size (fun q hq => (HO9.out.row.lt q hq).1)
      have HP := Lib.hid hpush
      have HB10 := Lib.hid hb10
      clear hown hgr hat hpush hb10 HO9 HZK HB9 r0 r1
      go_wp2_with (fail)
      go_roundw
      case rel => exact ⟨1 + 1, _, by go_num, by omega, HP, HB10⟩
      case measure => simp [intOf]
    obtain rfl : j = 2 := by omega
    have hlx := HO.out.lx (by simp [maxLen])
    have hblk := HO.out.blk rfl
    have htk : ([a, b] : List Ex).take 2 = [a, b] := rfl
    rw [htk] at hlx
    clear h0 h1 htk htl
    have HLX := Lib.hid hlx
    have HBK := Lib.hid hblk
    have hfz : Fz ≤ wr.heap.size := by have h1 := HF.out; have h2 := HES.out; omega
    have HFZ := Lib.hid hfz
    clear hlx hblk hfz
    go_wp2_with (fail)
    refine (number_ok (Fz := Fz) 0 _ (by decide) HFZ.out).mono ?_
    rintro en w3 ⟨z0, rfl, hz0', hB3⟩
    obtain ⟨bz, Sz, rfl, _⟩ := hz0'.root
    have hb3 := below_then HB.out hB3
    have hn3 := HN.out.grow hb3
    have HN3 := Lib.hid hn3
    have n0 := fun g : Grown w3 => heapN_cellj (HN3.out.grow g.h) (k := 0) (u := .int .i64 8) rfl
    have n1 := fun g : Grown w3 => heapN_cellj (HN3.out.grow g.h) (k := 1) (u := .int .i64 n) rfl
    have n2 := fun g : Grown w3 => heapN_cellj (HN3.out.grow g.h) (k := 2) (u := .int .i64 lo) rfl
    have n3 := fun g : Grown w3 => heapN_cellj (HN3.out.grow g.h) (k := 3) (u := .int .i64 hi) rfl
    have HZ0 := Lib.hid hz0'
    have HB3 := Lib.hid hb3
    have HL3 := Lib.hid (Lx.grow grows_tm HLX.out hB3)
    have HK3 := Lib.hid (fun (a : Addr) (ha : p7 = some a) => show Fz ≤ a.block from by have h0 := HBK.out a ha; have h1 := HF.out; have h2 := HES.out; omega)
    clear hz0' hb3 hn3 hB3 HO HB HLX HBK
    have hdv := HD.out.grow HB3.out
    have HDV := Lib.hid hdv
    have rl := fun g : Grown w3 => (HDV.out.grow g.h).rul.cell
    have lkf := fun g : Grown w3 => (HDV.out.grow g.h).map.get (i := 8) (by unfold W64; omega) ruleM_8
    have f0 := fun g : Grown w3 => cell_grow Qa.out (below_then HB3.out g.h)
    have f1 := fun g : Grown w3 => cell_grow Ra.out (below_then HB3.out g.h)
    have Pa := Lib.hid (fun g : Grown w3 => Ta.out.grow (below_then HB3.out g.h))
    have Za := Lib.hid (fun g : Grown w3 => Va.out.grow (below_then HB3.out g.h))
    have f2 := fun g : Grown w3 => cell_grow Qb.out (below_then HB3.out g.h)
    have f3 := fun g : Grown w3 => cell_grow Rb.out (below_then HB3.out g.h)
    have Pb := Lib.hid (fun g : Grown w3 => Tb.out.grow (below_then HB3.out g.h))
    have Zb := Lib.hid (fun g : Grown w3 => Vb.out.grow (below_then HB3.out g.h))
    clear hdv
    go_wp2_with (fail)
    refine region_pred (lk [(28, fun z_ _ => z_ = .map (some bm)), (29, fun z_ _ => z_ = .pointer (some ⟨W.heap.size, 0, none⟩)), (30, fun z_ _ => z_ = .int .i64 8), (31, fun z_ _ => z_ = .func (.func 106) #[] #[]), (32, fun z_ _ => z_ = .slice (some ⟨r, o, none⟩) 2 c), (33, fun z_ _ => z_ = .pointer (some ⟨r, o, none⟩)), (34, fun z_ _ => z_ = .agg #[.pointer (some ⟨ba, 0, none⟩), .pointer (some ⟨ca, 0, none⟩)]), (35, fun z_ _ => z_ = .slice (some ⟨r, o, none⟩) 2 c), (36, fun z_ _ => z_ = .slice (some ⟨r, o, none⟩) 2 c), (37, fun z_ _ => z_ = .int .i64 2), (38, fun z_ _ => z_ = .int .i64 1), (39, fun z_ _ => z_ = .pointer (some ⟨r, o + 2, none⟩)), (40, fun z_ _ => z_ = .agg #[.pointer (some ⟨bb, 0, none⟩), .pointer (some ⟨cb, 0, none⟩)]), (41, fun z_ w_ => TmQ Fz w_ z_ (rl2 8 (a, a') (b, b'))), (10, fun z_ w_ => TmQ Fz w_ z_ (rl2 8 (a, a') (b, b')))]) (by kernel_rfl) (by kernel_rfl) (lk_steady _ ⟨steady_eq _, steady_eq _, steady_eq _, steady_eq _, steady_eq _, steady_eq _, steady_eq _, steady_eq _, steady_eq _, steady_eq _, steady_eq _, steady_eq _, steady_eq _, steady_tmq _, steady_tmq _, trivial⟩) ?_ ?_
    · refine ⟨?_, ?_, ?_, ?_, ?_, ?_, ?_, ?_, ?_, ?_, ?_, ?_, ?_, ?_, ?_, trivial⟩
      · refine ob_plain [2] rfl rfl fun aa g h => ?_
        have yy0 := seen_out (v := .pointer (some ⟨rb, 0, none⟩)) rfl rfl h.1
        have ee0 := getD_of yy0
        exact tupon_value (v := .map (some bm)) (by simp [go_sem, ee0, yy0, rl g]) (Below.refl _ _) rfl
      · refine ob_plain [4] rfl rfl fun aa g h => ?_
        have yy0 := seen_out (v := .pointer (some ⟨W.heap.size, 0, none⟩)) rfl rfl h.1
        have ee0 := getD_of yy0
        exact tupon_value (v := .pointer (some ⟨W.heap.size, 0, none⟩)) (by simp [go_sem, ee0, yy0]) (Below.refl _ _) rfl
      · refine ob_plain [29] rfl rfl fun aa g h => ?_
        obtain ⟨_, yy0, rfl⟩ := seen_in rfl h.1
        have ee0 := getD_of yy0
        exact tupon_value (v := .int .i64 8) (by simp [go_sem, ee0, yy0, n0 g]) (Below.refl _ _) rfl
      · refine ob_plain [28, 30] rfl rfl fun aa g h => ?_
        obtain ⟨_, yy0, rfl⟩ := seen_in rfl h.1
        have ee0 := getD_of yy0
        obtain ⟨_, yy1, rfl⟩ := seen_in rfl h.2.1
        have ee1 := getD_of yy1
        exact tupon_value (v := .func (.func 106) #[] #[]) (by simp [go_sem, ee0, yy0, ee1, yy1, lkf g]) (Below.refl _ _) rfl
      · refine ob_plain [1] rfl rfl fun aa g h => ?_
        have yy0 := seen_out (v := .slice (some ⟨r, o, none⟩) 2 c) rfl rfl h.1
        have ee0 := getD_of yy0
        exact tupon_value (v := .slice (some ⟨r, o, none⟩) 2 c) (by simp [go_sem, ee0, yy0]) (Below.refl _ _) rfl
      · refine ob_plain [32] rfl rfl fun aa g h => ?_
        obtain ⟨_, yy0, rfl⟩ := seen_in rfl h.1
        have ee0 := getD_of yy0
        exact tupon_value (v := .pointer (some ⟨r, o, none⟩)) (by simp [go_sem, ee0, yy0]) (Below.refl _ _) rfl
      · refine ob_plain [33] rfl rfl fun aa g h => ?_
        obtain ⟨_, yy0, rfl⟩ := seen_in rfl h.1
        have ee0 := getD_of yy0
        exact tupon_value (v := .agg #[.pointer (some ⟨ba, 0, none⟩), .pointer (some ⟨ca, 0, none⟩)]) (by simp [go_sem, ee0, yy0, f0 g, f1 g]) (Below.refl _ _) rfl
      · refine ob_plain [1] rfl rfl fun aa g h => ?_
        have yy0 := seen_out (v := .slice (some ⟨r, o, none⟩) 2 c) rfl rfl h.1
        have ee0 := getD_of yy0
        exact tupon_value (v := .slice (some ⟨r, o, none⟩) 2 c) (by simp [go_sem, ee0, yy0]) (Below.refl _ _) rfl
      · refine ob_plain [1] rfl rfl fun aa g h => ?_
        have yy0 := seen_out (v := .slice (some ⟨r, o, none⟩) 2 c) rfl rfl h.1
        have ee0 := getD_of yy0
        exact tupon_value (v := .slice (some ⟨r, o, none⟩) 2 c) (by simp [go_sem, ee0, yy0]) (Below.refl _ _) rfl
      · refine ob_plain [36] rfl rfl fun aa g h => ?_
        obtain ⟨_, yy0, rfl⟩ := seen_in rfl h.1
        have ee0 := getD_of yy0
        exact tupon_value (v := .int .i64 2) (by simp [go_sem, ee0, yy0]) (Below.refl _ _) rfl
      · refine ob_plain [37] rfl rfl fun aa g h => ?_
        obtain ⟨_, yy0, rfl⟩ := seen_in rfl h.1
        have ee0 := getD_of yy0
        exact tupon_value (v := .int .i64 1) (by simp [go_sem, ee0, yy0, wrap_1]) (Below.refl _ _) rfl
      · refine ob_plain [35, 38] rfl rfl fun aa g h => ?_
        obtain ⟨_, yy0, rfl⟩ := seen_in rfl h.1
        have ee0 := getD_of yy0
        obtain ⟨_, yy1, rfl⟩ := seen_in rfl h.2.1
        have ee1 := getD_of yy1
        exact tupon_value (v := .pointer (some ⟨r, o + 2, none⟩)) (by simp [go_sem, ee0, yy0, ee1, yy1]) (Below.refl _ _) rfl
      · refine ob_plain [39] rfl rfl fun aa g h => ?_
        obtain ⟨_, yy0, rfl⟩ := seen_in rfl h.1
        have ee0 := getD_of yy0
        exact tupon_value (v := .agg #[.pointer (some ⟨bb, 0, none⟩), .pointer (some ⟨cb, 0, none⟩)]) (by simp [go_sem, ee0, yy0, f2 g, f3 g]) (Below.refl _ _) rfl
      · refine ob_plain [31, 34, 40] rfl rfl fun aa g h => ?_
        obtain ⟨_, yy0, rfl⟩ := seen_in rfl h.1
        have ee0 := getD_of yy0
        obtain ⟨_, yy1, rfl⟩ := seen_in rfl h.2.1
        have ee1 := getD_of yy1
        obtain ⟨_, yy2, rfl⟩ := seen_in rfl h.2.2.1
        have ee2 := getD_of yy2
        refine tupon_enter (f := 106) (args := #[.agg #[.pointer (some ⟨ba, 0, none⟩), .pointer (some ⟨ca, 0, none⟩)], .agg #[.pointer (some ⟨bb, 0, none⟩), .pointer (some ⟨cb, 0, none⟩)]]) (by simp [go_sem, ee0, yy0, ee1, yy1, ee2, yy2]) rfl ?_
        exact (rule3_ok N _ _ _ _ a a' b b' g.w (Pa.out g) (Za.out g) (Pb.out g) (Zb.out g) Xa.out Ya.out Xb.out Yb.out).mono fun e w' ⟨z, he, hz, hB⟩ => ⟨_, he, hB, tmq_of hz⟩
      · refine ob_plain [41] rfl rfl fun aa g h => ?_
        obtain ⟨_, yy0, ⟨b41, rfl, hz41⟩⟩ := seen_in rfl h.1
        have ee0 := getD_of yy0
        exact tupon_value (v := .pointer (some ⟨b41, 0, none⟩)) (by simp [go_sem, ee0, yy0]) (Below.refl _ _) ⟨_, rfl, hz41⟩
    rintro w5 hB _ rfl _ rfl _ rfl _ rfl _ rfl _ rfl _ rfl _ rfl _ rfl _ rfl _ rfl _ rfl _ rfl _ ⟨b41, rfl, hz41⟩ _ ⟨b10, rfl, hz10⟩
    simp only [Act.put, List.setIfInBounds_toArray, List.set_cons_succ, List.set_cons_zero, List.filterMap_nil, finP]
    have hz10' : TmP Fz w5 (.pointer (some ⟨b10, 0, none⟩)) res2 := by have := R2.out; rw [← this]; exact hz10
    have HZ5 := Lib.hid hz10'
    have HB5 := Lib.hid hB
    clear hz10 hz41 hz10' hB rl lkf f0 f1 f2 f3 Pa Za Pb Zb
    have a0 := n0 ⟨w5, HB5.out⟩
    have a1 := n1 ⟨w5, HB5.out⟩
    have a2 := n2 ⟨w5, HB5.out⟩
    have a3 := n3 ⟨w5, HB5.out⟩
    dsimp only at a0 a1 a2 a3
    clear n0 n1 n2 n3
    go_wp2_with (fail)
    refine (simpL_ok (Fz := Fz) N 8 n lo hi p7 c7 [a, b] w5 (Lx.grow grows_tm HL3.out (HB5.out)) HK3.out (HZ5.out.fz) rfl (by simp; exact ⟨Xa.out, Xb.out⟩)).mono ?_
    rintro en w7 ⟨z7, rfl, hz7, hB7⟩
    obtain ⟨b7, S7, rfl, _⟩ := hz7.root
    have hb7 := below_then HB3.out (below_then (HB5.out) hB7)
    have hr7 := HR.out.grow hb7
    have q0 := heapN_cellj hr7 (k := 0) (u := .pointer none) rfl
    have q1 := heapN_cellj hr7 (k := 1) (u := .pointer none) rfl
    have y0 : w7.frozen? ⟨W.heap.size + 1, 0, none⟩ = false := by simp [World.frozen?, show w7.heap[W.heap.size + 1]? = _ from hr7]
    have y1 : w7.frozen? ⟨W.heap.size + 1, 1, none⟩ = false := by simp [World.frozen?, show w7.heap[W.heap.size + 1]? = _ from hr7]
    rw [R1.out] at hz7
    obtain ⟨w8, e8, hI8, hO8⟩ := set2 hr7 (.pointer (some ⟨b7, 0, none⟩)) (.pointer (some ⟨b10, 0, none⟩))
    have x0 := heapN_cellj hI8 (k := 0) (u := .pointer (some ⟨b7, 0, none⟩)) rfl
    have x1 := heapN_cellj hI8 (k := 1) (u := .pointer (some ⟨b10, 0, none⟩)) rfl
    have hb8 : Below W.heap.size W w8 := hO8.bel (below_then HE.out hb7) (by omega) (by have := HE.out.size; have := hb7.size; omega)
    have HK1 := Lib.hid (tm_oth hr7 hO8 hz7)
    have HK2 := Lib.hid (tm_oth hr7 hO8 (HZ5.out.grow hB7))
    have HB8 := Lib.hid hb8
    rw [← e8] at x0 x1
    have HE8 := Lib.hid e8
    clear a0 a1 a2 a3 hz7 hB7 hb7 hr7 e8 hI8 hO8 hb8
    go_wp2_with (fail)
    refine bodyPost_ret (v := .agg #[.pointer (some ⟨b7, 0, none⟩), .pointer (some ⟨b10, 0, none⟩)]) (by simp [results, Tryz.results78, go_sem, x0, x1]) rfl ?_
    rw [HE8.out]
    exact ⟨_, _, rfl, HK1.out, HK2.out, HB8.out⟩
set_option maxHeartbeats 16000000 in
theorem visit2_9 (N : Int) (rb vb bm : Nat) (y : Nd) (n lo hi : Int) (c : Nat) (W : World) (r o : Nat) (ua za : Value) (a a' : Ex) (ha : W.cell? ⟨r, o, none⟩ = some ua) (ga : W.cell? ⟨r, o + 1, none⟩ = some za) (ta : TmP Fz W ua a) (sa : TmP Fz W za a') (ea : EV N a) (da : EV N a') (ub zb : Value) (b b' : Ex) (hb : W.cell? ⟨r, o + 2, none⟩ = some ub) (gb : W.cell? ⟨r, o + 3, none⟩ = some zb) (tb : TmP Fz W ub b) (sb : TmP Fz W zb b') (eb : EV N b) (db : EV N b') (hD : DvS rb vb bm y W) :
    Calls Tryz.prog 78 #[.agg #[.int .i64 9, .int .i64 n, .int .i64 lo, .int .i64 hi], .slice (some ⟨r, o, none⟩) 2 c, .pointer (some ⟨rb, 0, none⟩), .pointer (some ⟨vb, 0, none⟩)] W fun en w' => ∃ u u', en = .returned (.agg #[u, u']) ∧ TmP Fz w' u (sE ⟨9, n, lo, hi⟩ [a, b]) ∧ TmP Fz w' u' (dE y ⟨9, n, lo, hi⟩ [(a, a'), (b, b')]) ∧ Below W.heap.size W w' := by
  obtain ⟨i0, hi0, hz0, hz1, hz2⟩ := info_parts info_pt
  obtain ⟨ba, Sa, rfl, _⟩ := ta.root
  obtain ⟨ca, Ua, rfl, _⟩ := sa.root
  obtain ⟨bb, Sb, rfl, _⟩ := tb.root
  obtain ⟨cb, Ub, rfl, _⟩ := sb.root
  have hF := ta.fz
  have hE : Below W.heap.size W ((W.alloc (.cells #[.int .i64 9, .int .i64 n, .int .i64 lo, .int .i64 hi] 63)).alloc (.cells #[.pointer none, .pointer none] 96)) := allocs_below [.cells #[.int .i64 9, .int .i64 n, .int .i64 lo, .int .i64 hi] 63, .cells #[.pointer none, .pointer none] 96] W
  have hN : Blk ((W.alloc (.cells #[.int .i64 9, .int .i64 n, .int .i64 lo, .int .i64 hi] 63)).alloc (.cells #[.pointer none, .pointer none] 96)) W.heap.size (.cells #[.int .i64 9, .int .i64 n, .int .i64 lo, .int .i64 hi] 63) := allocs_at [.cells #[.int .i64 9, .int .i64 n, .int .i64 lo, .int .i64 hi] 63, .cells #[.pointer none, .pointer none] 96] W 0 _ rfl
  have hR : Blk ((W.alloc (.cells #[.int .i64 9, .int .i64 n, .int .i64 lo, .int .i64 hi] 63)).alloc (.cells #[.pointer none, .pointer none] 96)) (W.heap.size + 1) (.cells #[.pointer none, .pointer none] 96) := allocs_at [.cells #[.int .i64 9, .int .i64 n, .int .i64 lo, .int .i64 hi] 63, .cells #[.pointer none, .pointer none] 96] W 1 _ rfl
  have hEs : (((W.alloc (.cells #[.int .i64 9, .int .i64 n, .int .i64 lo, .int .i64 hi] 63)).alloc (.cells #[.pointer none, .pointer none] 96))).heap.size = W.heap.size + 1 + 1 := by rw [alloc_sz, alloc_sz]
  have qa := cell_grow ha hE
  have ra := cell_grow ga hE
  have Ta := Lib.hid (ta.grow hE)
  have Va := Lib.hid (sa.grow hE)
  have Xa := Lib.hid ea
  have Ya := Lib.hid da
  clear ha ga ta sa ea da
  have qb := cell_grow hb hE
  have rb := cell_grow gb hE
  have Tb := Lib.hid (tb.grow hE)
  have Vb := Lib.hid (sb.grow hE)
  have Xb := Lib.hid eb
  have Yb := Lib.hid db
  clear hb gb tb sb eb db
  have HD := Lib.hid (hD.grow hE)
  obtain ⟨E, hEE⟩ : ∃ E, ((W.alloc (.cells #[.int .i64 9, .int .i64 n, .int .i64 lo, .int .i64 hi] 63)).alloc (.cells #[.pointer none, .pointer none] 96)) = E := ⟨_, rfl⟩
  rw [hEE] at hE hN hR hEs HD qa ra Ta Va qb rb Tb Vb
  have HE := Lib.hid hE
  have HEE := Lib.hid hEE
  have HES := Lib.hid hEs
  have HF := Lib.hid hF
  have HN := Lib.hid hN
  have HR := Lib.hid hR
  have Qa := Lib.hid qa
  have Ra := Lib.hid ra
  clear qa ra
  have Qb := Lib.hid qb
  have Rb := Lib.hid rb
  clear qb rb
  have HW0 := Lib.hid (show OwnT Fz E.heap.size E (.slice none 0 0) [] [] from ⟨World.ownsRow_nil _ _ _ _, fun k u x h => by simp at h⟩)
  generalize hres1 : sE ⟨9, n, lo, hi⟩ [a, b] = res1
  generalize hres2 : dE y ⟨9, n, lo, hi⟩ [(a, a'), (b, b')] = res2
  have R1 := Lib.hid hres1
  have R2 := Lib.hid hres2
  clear hE hEE hD hF hEs hres1 hres2 hN hR
  go_enter Tryz.func78, Tryz.ntmps78
  go_wp2_with (fail)
  rw [HEE.out]
  go_loopw [7, 13] (fun v7 i wr => ∃ (j : Nat) (us : List Value), i = .int .i64 j ∧ j ≤ 2 ∧ Hid (OwnT Fz E.heap.size wr v7 (([a, b] : List Ex).take j) us) ∧ Hid (Below E.heap.size E wr)) (fun v7 i _ => 2 - (intOf i).toNat)
  case atStart => exact ⟨0, [], rfl, Nat.zero_le _, HW0, Lib.hid (Below.refl _ _)⟩
  case round =>
    clear HW0
    obtain ⟨j, us, rfl, hj, HO, HB⟩ := hrel
    obtain ⟨p7, c7, rfl⟩ := own_slice HO.out.row
    have htl : (([a, b] : List Ex).take j).length = j := by rw [List.length_take]; simp; omega
    rw [htl] at HO ⊢
    have hbs := HB.out.size
    by_cases h0 : j = 0
    · subst h0
      have r0 : wr.cell? ⟨r, o, none⟩ = some (.pointer (some ⟨ba, 0, none⟩)) := cell_grow Qa.out HB.out
      have r1 : wr.cell? ⟨r, o + 1, none⟩ = some (.pointer (some ⟨ca, 0, none⟩)) := cell_grow Ra.out HB.out
      have hA : Below wr.heap.size wr ((wr.alloc (.cells #[.pointer (some ⟨ba, 0, none⟩), .pointer (some ⟨ca, 0, none⟩)] 96)).alloc (.cells #[.pointer (some ⟨ba, 0, none⟩)] 69)) := ((Below.refl _ _).alloc (Nat.le_refl _) _).alloc (by rw [alloc_sz]; omega) _
      have HO9 := Lib.hid (HO.out.grow hA)
      have HB9 := Lib.hid (below_then HB.out hA)
      have hzk : ∀ W', ((wr.alloc (.cells #[.pointer (some ⟨ba, 0, none⟩), .pointer (some ⟨ca, 0, none⟩)] 96)).alloc (.cells #[.pointer (some ⟨ba, 0, none⟩)] 69)).grownBy W' (Value.slice p7 0 c7).ownBlock → TmP Fz W' (.pointer (some ⟨ba, 0, none⟩)) a := fun W' h => Ta.out.grow (Below.grown HB9.out h HB9.out.size (fun q hq => (HO9.out.row.lt q hq).1))
      have HZK := Lib.hid hzk
      clear hA hzk HO HB
      go_wp2_with (at_builtin; refine wpList_append_own_at _ rfl (.tmp 17) (.tmp 20) 86 rfl E.heap.size 69 i0 (.pointer none) 1 8 Tryz.underlying86 hi0 hz0 hz1 hz2 rfl (by decide) (.slice p7 0 c7) 0 _ rfl (by have := HO9.out.row; exact this) ⟨wr.heap.size + 1, 0, none⟩ 1 1 [.pointer (some ⟨ba, 0, none⟩)] rfl rfl (by have := one_newN (wr.alloc (.cells #[.pointer (some ⟨ba, 0, none⟩), .pointer (some ⟨ca, 0, none⟩)] 96)) (.pointer (some ⟨ba, 0, none⟩)) 69; rw [alloc_sz] at this; exact this) (by simp [Value.oneCell']) (by unfold maxLen; omega) (by omega) (by rw [alloc_sz, alloc_sz]; omega) ?_)
      intro v' w10 hown hgr _ hat
      obtain ⟨p6, c6, rfl⟩ := own_slice hown
      have hpush := HO9.out.push (x := a) (v' := .slice p6 (0 + 1) c6) (W' := w10) HZK.out hown hgr (by rw [alloc_sz, alloc_sz]; exact hat)
      have hb10 : Below E.heap.size E w10 := Below.grown HB9.out hgr HB9.out.size (fun q hq => (HO9.out.row.lt q hq).1)
      have HP := Lib.hid hpush
      have HB10 := Lib.hid hb10
      clear hown hgr hat hpush hb10 HO9 HZK HB9 r0 r1
      go_wp2_with (fail)
      go_roundw
      case rel => exact ⟨0 + 1, _, by go_num, by omega, HP, HB10⟩
      case measure => simp [intOf]
    by_cases h1 : j = 1
    · subst h1
      have r0 : wr.cell? ⟨r, o + 2, none⟩ = some (.pointer (some ⟨bb, 0, none⟩)) := cell_grow Qb.out HB.out
      have r1 : wr.cell? ⟨r, o + 3, none⟩ = some (.pointer (some ⟨cb, 0, none⟩)) := cell_grow Rb.out HB.out
      have hA : Below wr.heap.size wr ((wr.alloc (.cells #[.pointer (some ⟨bb, 0, none⟩), .pointer (some ⟨cb, 0, none⟩)] 96)).alloc (.cells #[.pointer (some ⟨bb, 0, none⟩)] 69)) := ((Below.refl _ _).alloc (Nat.le_refl _) _).alloc (by rw [alloc_sz]; omega) _
      have HO9 := Lib.hid (HO.out.grow hA)
      have HB9 := Lib.hid (below_then HB.out hA)
      have hzk : ∀ W', ((wr.alloc (.cells #[.pointer (some ⟨bb, 0, none⟩), .pointer (some ⟨cb, 0, none⟩)] 96)).alloc (.cells #[.pointer (some ⟨bb, 0, none⟩)] 69)).grownBy W' (Value.slice p7 1 c7).ownBlock → TmP Fz W' (.pointer (some ⟨bb, 0, none⟩)) b := fun W' h => Tb.out.grow (Below.grown HB9.out h HB9.out.size (fun q hq => (HO9.out.row.lt q hq).1))
      have HZK := Lib.hid hzk
      clear hA hzk HO HB
      go_wp2_with (at_builtin; refine wpList_append_own_at _ rfl (.tmp 17) (.tmp 20) 86 rfl E.heap.size 69 i0 (.pointer none) 1 8 Tryz.underlying86 hi0 hz0 hz1 hz2 rfl (by decide) (.slice p7 1 c7) 1 _ rfl (by have := HO9.out.row; exact this) ⟨wr.heap.size + 1, 0, none⟩ 1 1 [.pointer (some ⟨bb, 0, none⟩)] rfl rfl (by have := one_newN (wr.alloc (.cells #[.pointer (some ⟨bb, 0, none⟩), .pointer (some ⟨cb, 0, none⟩)] 96)) (.pointer (some ⟨bb, 0, none⟩)) 69; rw [alloc_sz] at this; exact this) (by simp [Value.oneCell']) (by unfold maxLen; omega) (by omega) (by rw [alloc_sz, alloc_sz]; omega) ?_)
      intro v' w10 hown hgr _ hat
      obtain ⟨p6, c6, rfl⟩ := own_slice hown
      have hpush := HO9.out.push (x := b) (v' := .slice p6 (1 + 1) c6) (W' := w10) HZK.out hown hgr (by rw [alloc_sz, alloc_sz]; exact hat)
      have hb10 : Below E.heap.size E w10 := Below.grown HB9.out hgr HB9.out.size (fun q hq => (HO9.out.row.lt q hq).1)
      have HP := Lib.hid hpush
      have HB10 := Lib.hid hb10
      clear hown hgr hat hpush hb10 HO9 HZK HB9 r0 r1
      go_wp2_with (fail)
      go_roundw
      case rel => exact ⟨1 + 1, _, by go_num, by omega, HP, HB10⟩
      case measure => simp [intOf]
    obtain rfl : j = 2 := by omega
    have hlx := HO.out.lx (by simp [maxLen])
    have hblk := HO.out.blk rfl
    have htk : ([a, b] : List Ex).take 2 = [a, b] := rfl
    rw [htk] at hlx
    clear h0 h1 htk htl
    have HLX := Lib.hid hlx
    have HBK := Lib.hid hblk
    have hfz : Fz ≤ wr.heap.size := by have h1 := HF.out; have h2 := HES.out; omega
    have HFZ := Lib.hid hfz
    clear hlx hblk hfz
    go_wp2_with (fail)
    refine (number_ok (Fz := Fz) 0 _ (by decide) HFZ.out).mono ?_
    rintro en w3 ⟨z0, rfl, hz0', hB3⟩
    obtain ⟨bz, Sz, rfl, _⟩ := hz0'.root
    have hb3 := below_then HB.out hB3
    have hn3 := HN.out.grow hb3
    have HN3 := Lib.hid hn3
    have n0 := fun g : Grown w3 => heapN_cellj (HN3.out.grow g.h) (k := 0) (u := .int .i64 9) rfl
    have n1 := fun g : Grown w3 => heapN_cellj (HN3.out.grow g.h) (k := 1) (u := .int .i64 n) rfl
    have n2 := fun g : Grown w3 => heapN_cellj (HN3.out.grow g.h) (k := 2) (u := .int .i64 lo) rfl
    have n3 := fun g : Grown w3 => heapN_cellj (HN3.out.grow g.h) (k := 3) (u := .int .i64 hi) rfl
    have HZ0 := Lib.hid hz0'
    have HB3 := Lib.hid hb3
    have HL3 := Lib.hid (Lx.grow grows_tm HLX.out hB3)
    have HK3 := Lib.hid (fun (a : Addr) (ha : p7 = some a) => show Fz ≤ a.block from by have h0 := HBK.out a ha; have h1 := HF.out; have h2 := HES.out; omega)
    clear hz0' hb3 hn3 hB3 HO HB HLX HBK
    have hdv := HD.out.grow HB3.out
    have HDV := Lib.hid hdv
    have rl := fun g : Grown w3 => (HDV.out.grow g.h).rul.cell
    have lkf := fun g : Grown w3 => (HDV.out.grow g.h).map.get (i := 9) (by unfold W64; omega) ruleM_9
    have f0 := fun g : Grown w3 => cell_grow Qa.out (below_then HB3.out g.h)
    have f1 := fun g : Grown w3 => cell_grow Ra.out (below_then HB3.out g.h)
    have Pa := Lib.hid (fun g : Grown w3 => Ta.out.grow (below_then HB3.out g.h))
    have Za := Lib.hid (fun g : Grown w3 => Va.out.grow (below_then HB3.out g.h))
    have f2 := fun g : Grown w3 => cell_grow Qb.out (below_then HB3.out g.h)
    have f3 := fun g : Grown w3 => cell_grow Rb.out (below_then HB3.out g.h)
    have Pb := Lib.hid (fun g : Grown w3 => Tb.out.grow (below_then HB3.out g.h))
    have Zb := Lib.hid (fun g : Grown w3 => Vb.out.grow (below_then HB3.out g.h))
    clear hdv
    go_wp2_with (fail)
    refine region_pred (lk [(28, fun z_ _ => z_ = .map (some bm)), (29, fun z_ _ => z_ = .pointer (some ⟨W.heap.size, 0, none⟩)), (30, fun z_ _ => z_ = .int .i64 9), (31, fun z_ _ => z_ = .func (.func 107) #[] #[]), (32, fun z_ _ => z_ = .slice (some ⟨r, o, none⟩) 2 c), (33, fun z_ _ => z_ = .pointer (some ⟨r, o, none⟩)), (34, fun z_ _ => z_ = .agg #[.pointer (some ⟨ba, 0, none⟩), .pointer (some ⟨ca, 0, none⟩)]), (35, fun z_ _ => z_ = .slice (some ⟨r, o, none⟩) 2 c), (36, fun z_ _ => z_ = .slice (some ⟨r, o, none⟩) 2 c), (37, fun z_ _ => z_ = .int .i64 2), (38, fun z_ _ => z_ = .int .i64 1), (39, fun z_ _ => z_ = .pointer (some ⟨r, o + 2, none⟩)), (40, fun z_ _ => z_ = .agg #[.pointer (some ⟨bb, 0, none⟩), .pointer (some ⟨cb, 0, none⟩)]), (41, fun z_ w_ => TmQ Fz w_ z_ (rl2 9 (a, a') (b, b'))), (10, fun z_ w_ => TmQ Fz w_ z_ (rl2 9 (a, a') (b, b')))]) (by kernel_rfl) (by kernel_rfl) (lk_steady _ ⟨steady_eq _, steady_eq _, steady_eq _, steady_eq _, steady_eq _, steady_eq _, steady_eq _, steady_eq _, steady_eq _, steady_eq _, steady_eq _, steady_eq _, steady_eq _, steady_tmq _, steady_tmq _, trivial⟩) ?_ ?_
    · refine ⟨?_, ?_, ?_, ?_, ?_, ?_, ?_, ?_, ?_, ?_, ?_, ?_, ?_, ?_, ?_, trivial⟩
      · refine ob_plain [2] rfl rfl fun aa g h => ?_
        have yy0 := seen_out (v := .pointer (some ⟨rb, 0, none⟩)) rfl rfl h.1
        have ee0 := getD_of yy0
        exact tupon_value (v := .map (some bm)) (by simp [go_sem, ee0, yy0, rl g]) (Below.refl _ _) rfl
      · refine ob_plain [4] rfl rfl fun aa g h => ?_
        have yy0 := seen_out (v := .pointer (some ⟨W.heap.size, 0, none⟩)) rfl rfl h.1
        have ee0 := getD_of yy0
        exact tupon_value (v := .pointer (some ⟨W.heap.size, 0, none⟩)) (by simp [go_sem, ee0, yy0]) (Below.refl _ _) rfl
      · refine ob_plain [29] rfl rfl fun aa g h => ?_
        obtain ⟨_, yy0, rfl⟩ := seen_in rfl h.1
        have ee0 := getD_of yy0
        exact tupon_value (v := .int .i64 9) (by simp [go_sem, ee0, yy0, n0 g]) (Below.refl _ _) rfl
      · refine ob_plain [28, 30] rfl rfl fun aa g h => ?_
        obtain ⟨_, yy0, rfl⟩ := seen_in rfl h.1
        have ee0 := getD_of yy0
        obtain ⟨_, yy1, rfl⟩ := seen_in rfl h.2.1
        have ee1 := getD_of yy1
        exact tupon_value (v := .func (.func 107) #[] #[]) (by simp [go_sem, ee0, yy0, ee1, yy1, lkf g]) (Below.refl _ _) rfl
      · refine ob_plain [1] rfl rfl fun aa g h => ?_
        have yy0 := seen_out (v := .slice (some ⟨r, o, none⟩) 2 c) rfl rfl h.1
        have ee0 := getD_of yy0
        exact tupon_value (v := .slice (some ⟨r, o, none⟩) 2 c) (by simp [go_sem, ee0, yy0]) (Below.refl _ _) rfl
      · refine ob_plain [32] rfl rfl fun aa g h => ?_
        obtain ⟨_, yy0, rfl⟩ := seen_in rfl h.1
        have ee0 := getD_of yy0
        exact tupon_value (v := .pointer (some ⟨r, o, none⟩)) (by simp [go_sem, ee0, yy0]) (Below.refl _ _) rfl
      · refine ob_plain [33] rfl rfl fun aa g h => ?_
        obtain ⟨_, yy0, rfl⟩ := seen_in rfl h.1
        have ee0 := getD_of yy0
        exact tupon_value (v := .agg #[.pointer (some ⟨ba, 0, none⟩), .pointer (some ⟨ca, 0, none⟩)]) (by simp [go_sem, ee0, yy0, f0 g, f1 g]) (Below.refl _ _) rfl
      · refine ob_plain [1] rfl rfl fun aa g h => ?_
        have yy0 := seen_out (v := .slice (some ⟨r, o, none⟩) 2 c) rfl rfl h.1
        have ee0 := getD_of yy0
        exact tupon_value (v := .slice (some ⟨r, o, none⟩) 2 c) (by simp [go_sem, ee0, yy0]) (Below.refl _ _) rfl
      · refine ob_plain [1] rfl rfl fun aa g h => ?_
        have yy0 := seen_out (v := .slice (some ⟨r, o, none⟩) 2 c) rfl rfl h.1
        have ee0 := getD_of yy0
        exact tupon_value (v := .slice (some ⟨r, o, none⟩) 2 c) (by simp [go_sem, ee0, yy0]) (Below.refl _ _) rfl
      · refine ob_plain [36] rfl rfl fun aa g h => ?_
        obtain ⟨_, yy0, rfl⟩ := seen_in rfl h.1
        have ee0 := getD_of yy0
        exact tupon_value (v := .int .i64 2) (by simp [go_sem, ee0, yy0]) (Below.refl _ _) rfl
      · refine ob_plain [37] rfl rfl fun aa g h => ?_
        obtain ⟨_, yy0, rfl⟩ := seen_in rfl h.1
        have ee0 := getD_of yy0
        exact tupon_value (v := .int .i64 1) (by simp [go_sem, ee0, yy0, wrap_1]) (Below.refl _ _) rfl
      · refine ob_plain [35, 38] rfl rfl fun aa g h => ?_
        obtain ⟨_, yy0, rfl⟩ := seen_in rfl h.1
        have ee0 := getD_of yy0
        obtain ⟨_, yy1, rfl⟩ := seen_in rfl h.2.1
        have ee1 := getD_of yy1
        exact tupon_value (v := .pointer (some ⟨r, o + 2, none⟩)) (by simp [go_sem, ee0, yy0, ee1, yy1]) (Below.refl _ _) rfl
      · refine ob_plain [39] rfl rfl fun aa g h => ?_
        obtain ⟨_, yy0, rfl⟩ := seen_in rfl h.1
        have ee0 := getD_of yy0
        exact tupon_value (v := .agg #[.pointer (some ⟨bb, 0, none⟩), .pointer (some ⟨cb, 0, none⟩)]) (by simp [go_sem, ee0, yy0, f2 g, f3 g]) (Below.refl _ _) rfl
      · refine ob_plain [31, 34, 40] rfl rfl fun aa g h => ?_
        obtain ⟨_, yy0, rfl⟩ := seen_in rfl h.1
        have ee0 := getD_of yy0
        obtain ⟨_, yy1, rfl⟩ := seen_in rfl h.2.1
        have ee1 := getD_of yy1
        obtain ⟨_, yy2, rfl⟩ := seen_in rfl h.2.2.1
        have ee2 := getD_of yy2
        refine tupon_enter (f := 107) (args := #[.agg #[.pointer (some ⟨ba, 0, none⟩), .pointer (some ⟨ca, 0, none⟩)], .agg #[.pointer (some ⟨bb, 0, none⟩), .pointer (some ⟨cb, 0, none⟩)]]) (by simp [go_sem, ee0, yy0, ee1, yy1, ee2, yy2]) rfl ?_
        exact (rule4_ok N _ _ _ _ a a' b b' g.w (Pa.out g) (Za.out g) (Pb.out g) (Zb.out g) Xa.out Ya.out Xb.out Yb.out).mono fun e w' ⟨z, he, hz, hB⟩ => ⟨_, he, hB, tmq_of hz⟩
      · refine ob_plain [41] rfl rfl fun aa g h => ?_
        obtain ⟨_, yy0, ⟨b41, rfl, hz41⟩⟩ := seen_in rfl h.1
        have ee0 := getD_of yy0
        exact tupon_value (v := .pointer (some ⟨b41, 0, none⟩)) (by simp [go_sem, ee0, yy0]) (Below.refl _ _) ⟨_, rfl, hz41⟩
    rintro w5 hB _ rfl _ rfl _ rfl _ rfl _ rfl _ rfl _ rfl _ rfl _ rfl _ rfl _ rfl _ rfl _ rfl _ ⟨b41, rfl, hz41⟩ _ ⟨b10, rfl, hz10⟩
    simp only [Act.put, List.setIfInBounds_toArray, List.set_cons_succ, List.set_cons_zero, List.filterMap_nil, finP]
    have hz10' : TmP Fz w5 (.pointer (some ⟨b10, 0, none⟩)) res2 := by have := R2.out; rw [← this]; exact hz10
    have HZ5 := Lib.hid hz10'
    have HB5 := Lib.hid hB
    clear hz10 hz41 hz10' hB rl lkf f0 f1 f2 f3 Pa Za Pb Zb
    have a0 := n0 ⟨w5, HB5.out⟩
    have a1 := n1 ⟨w5, HB5.out⟩
    have a2 := n2 ⟨w5, HB5.out⟩
    have a3 := n3 ⟨w5, HB5.out⟩
    dsimp only at a0 a1 a2 a3
    clear n0 n1 n2 n3
    go_wp2_with (fail)
    refine (simpL_ok (Fz := Fz) N 9 n lo hi p7 c7 [a, b] w5 (Lx.grow grows_tm HL3.out (HB5.out)) HK3.out (HZ5.out.fz) rfl (by simp; exact ⟨Xa.out, Xb.out⟩)).mono ?_
    rintro en w7 ⟨z7, rfl, hz7, hB7⟩
    obtain ⟨b7, S7, rfl, _⟩ := hz7.root
    have hb7 := below_then HB3.out (below_then (HB5.out) hB7)
    have hr7 := HR.out.grow hb7
    have q0 := heapN_cellj hr7 (k := 0) (u := .pointer none) rfl
    have q1 := heapN_cellj hr7 (k := 1) (u := .pointer none) rfl
    have y0 : w7.frozen? ⟨W.heap.size + 1, 0, none⟩ = false := by simp [World.frozen?, show w7.heap[W.heap.size + 1]? = _ from hr7]
    have y1 : w7.frozen? ⟨W.heap.size + 1, 1, none⟩ = false := by simp [World.frozen?, show w7.heap[W.heap.size + 1]? = _ from hr7]
    rw [R1.out] at hz7
    obtain ⟨w8, e8, hI8, hO8⟩ := set2 hr7 (.pointer (some ⟨b7, 0, none⟩)) (.pointer (some ⟨b10, 0, none⟩))
    have x0 := heapN_cellj hI8 (k := 0) (u := .pointer (some ⟨b7, 0, none⟩)) rfl
    have x1 := heapN_cellj hI8 (k := 1) (u := .pointer (some ⟨b10, 0, none⟩)) rfl
    have hb8 : Below W.heap.size W w8 := hO8.bel (below_then HE.out hb7) (by omega) (by have := HE.out.size; have := hb7.size; omega)
    have HK1 := Lib.hid (tm_oth hr7 hO8 hz7)
    have HK2 := Lib.hid (tm_oth hr7 hO8 (HZ5.out.grow hB7))
    have HB8 := Lib.hid hb8
    rw [← e8] at x0 x1
    have HE8 := Lib.hid e8
    clear a0 a1 a2 a3 hz7 hB7 hb7 hr7 e8 hI8 hO8 hb8
    go_wp2_with (fail)
    refine bodyPost_ret (v := .agg #[.pointer (some ⟨b7, 0, none⟩), .pointer (some ⟨b10, 0, none⟩)]) (by simp [results, Tryz.results78, go_sem, x0, x1]) rfl ?_
    rw [HE8.out]
    exact ⟨_, _, rfl, HK1.out, HK2.out, HB8.out⟩
set_option maxHeartbeats 16000000 in
theorem visit2_10 (N : Int) (rb vb bm : Nat) (y : Nd) (n lo hi : Int) (c : Nat) (W : World) (r o : Nat) (ua za : Value) (a a' : Ex) (ha : W.cell? ⟨r, o, none⟩ = some ua) (ga : W.cell? ⟨r, o + 1, none⟩ = some za) (ta : TmP Fz W ua a) (sa : TmP Fz W za a') (ea : EV N a) (da : EV N a') (ub zb : Value) (b b' : Ex) (hb : W.cell? ⟨r, o + 2, none⟩ = some ub) (gb : W.cell? ⟨r, o + 3, none⟩ = some zb) (tb : TmP Fz W ub b) (sb : TmP Fz W zb b') (eb : EV N b) (db : EV N b') (hD : DvS rb vb bm y W) :
    Calls Tryz.prog 78 #[.agg #[.int .i64 10, .int .i64 n, .int .i64 lo, .int .i64 hi], .slice (some ⟨r, o, none⟩) 2 c, .pointer (some ⟨rb, 0, none⟩), .pointer (some ⟨vb, 0, none⟩)] W fun en w' => ∃ u u', en = .returned (.agg #[u, u']) ∧ TmP Fz w' u (sE ⟨10, n, lo, hi⟩ [a, b]) ∧ TmP Fz w' u' (dE y ⟨10, n, lo, hi⟩ [(a, a'), (b, b')]) ∧ Below W.heap.size W w' := by
  obtain ⟨i0, hi0, hz0, hz1, hz2⟩ := info_parts info_pt
  obtain ⟨ba, Sa, rfl, _⟩ := ta.root
  obtain ⟨ca, Ua, rfl, _⟩ := sa.root
  obtain ⟨bb, Sb, rfl, _⟩ := tb.root
  obtain ⟨cb, Ub, rfl, _⟩ := sb.root
  have hF := ta.fz
  have hE : Below W.heap.size W ((W.alloc (.cells #[.int .i64 10, .int .i64 n, .int .i64 lo, .int .i64 hi] 63)).alloc (.cells #[.pointer none, .pointer none] 96)) := allocs_below [.cells #[.int .i64 10, .int .i64 n, .int .i64 lo, .int .i64 hi] 63, .cells #[.pointer none, .pointer none] 96] W
  have hN : Blk ((W.alloc (.cells #[.int .i64 10, .int .i64 n, .int .i64 lo, .int .i64 hi] 63)).alloc (.cells #[.pointer none, .pointer none] 96)) W.heap.size (.cells #[.int .i64 10, .int .i64 n, .int .i64 lo, .int .i64 hi] 63) := allocs_at [.cells #[.int .i64 10, .int .i64 n, .int .i64 lo, .int .i64 hi] 63, .cells #[.pointer none, .pointer none] 96] W 0 _ rfl
  have hR : Blk ((W.alloc (.cells #[.int .i64 10, .int .i64 n, .int .i64 lo, .int .i64 hi] 63)).alloc (.cells #[.pointer none, .pointer none] 96)) (W.heap.size + 1) (.cells #[.pointer none, .pointer none] 96) := allocs_at [.cells #[.int .i64 10, .int .i64 n, .int .i64 lo, .int .i64 hi] 63, .cells #[.pointer none, .pointer none] 96] W 1 _ rfl
  have hEs : (((W.alloc (.cells #[.int .i64 10, .int .i64 n, .int .i64 lo, .int .i64 hi] 63)).alloc (.cells #[.pointer none, .pointer none] 96))).heap.size = W.heap.size + 1 + 1 := by rw [alloc_sz, alloc_sz]
  have qa := cell_grow ha hE
  have ra := cell_grow ga hE
  have Ta := Lib.hid (ta.grow hE)
  have Va := Lib.hid (sa.grow hE)
  have Xa := Lib.hid ea
  have Ya := Lib.hid da
  clear ha ga ta sa ea da
  have qb := cell_grow hb hE
  have rb := cell_grow gb hE
  have Tb := Lib.hid (tb.grow hE)
  have Vb := Lib.hid (sb.grow hE)
  have Xb := Lib.hid eb
  have Yb := Lib.hid db
  clear hb gb tb sb eb db
  have HD := Lib.hid (hD.grow hE)
  obtain ⟨E, hEE⟩ : ∃ E, ((W.alloc (.cells #[.int .i64 10, .int .i64 n, .int .i64 lo, .int .i64 hi] 63)).alloc (.cells #[.pointer none, .pointer none] 96)) = E := ⟨_, rfl⟩
  rw [hEE] at hE hN hR hEs HD qa ra Ta Va qb rb Tb Vb
  have HE := Lib.hid hE
  have HEE := Lib.hid hEE
  have HES := Lib.hid hEs
  have HF := Lib.hid hF
  have HN := Lib.hid hN
  have HR := Lib.hid hR
  have Qa := Lib.hid qa
  have Ra := Lib.hid ra
  clear qa ra
  have Qb := Lib.hid qb
  have Rb := Lib.hid rb
  clear qb rb
  have HW0 := Lib.hid (show OwnT Fz E.heap.size E (.slice none 0 0) [] [] from ⟨World.ownsRow_nil _ _ _ _, fun k u x h => by simp at h⟩)
  generalize hres1 : sE ⟨10, n, lo, hi⟩ [a, b] = res1
  generalize hres2 : dE y ⟨10, n, lo, hi⟩ [(a, a'), (b, b')] = res2
  have R1 := Lib.hid hres1
  have R2 := Lib.hid hres2
  clear hE hEE hD hF hEs hres1 hres2 hN hR
  go_enter Tryz.func78, Tryz.ntmps78
  go_wp2_with (fail)
  rw [HEE.out]
  go_loopw [7, 13] (fun v7 i wr => ∃ (j : Nat) (us : List Value), i = .int .i64 j ∧ j ≤ 2 ∧ Hid (OwnT Fz E.heap.size wr v7 (([a, b] : List Ex).take j) us) ∧ Hid (Below E.heap.size E wr)) (fun v7 i _ => 2 - (intOf i).toNat)
  case atStart => exact ⟨0, [], rfl, Nat.zero_le _, HW0, Lib.hid (Below.refl _ _)⟩
  case round =>
    clear HW0
    obtain ⟨j, us, rfl, hj, HO, HB⟩ := hrel
    obtain ⟨p7, c7, rfl⟩ := own_slice HO.out.row
    have htl : (([a, b] : List Ex).take j).length = j := by rw [List.length_take]; simp; omega
    rw [htl] at HO ⊢
    have hbs := HB.out.size
    by_cases h0 : j = 0
    · subst h0
      have r0 : wr.cell? ⟨r, o, none⟩ = some (.pointer (some ⟨ba, 0, none⟩)) := cell_grow Qa.out HB.out
      have r1 : wr.cell? ⟨r, o + 1, none⟩ = some (.pointer (some ⟨ca, 0, none⟩)) := cell_grow Ra.out HB.out
      have hA : Below wr.heap.size wr ((wr.alloc (.cells #[.pointer (some ⟨ba, 0, none⟩), .pointer (some ⟨ca, 0, none⟩)] 96)).alloc (.cells #[.pointer (some ⟨ba, 0, none⟩)] 69)) := ((Below.refl _ _).alloc (Nat.le_refl _) _).alloc (by rw [alloc_sz]; omega) _
      have HO9 := Lib.hid (HO.out.grow hA)
      have HB9 := Lib.hid (below_then HB.out hA)
      have hzk : ∀ W', ((wr.alloc (.cells #[.pointer (some ⟨ba, 0, none⟩), .pointer (some ⟨ca, 0, none⟩)] 96)).alloc (.cells #[.pointer (some ⟨ba, 0, none⟩)] 69)).grownBy W' (Value.slice p7 0 c7).ownBlock → TmP Fz W' (.pointer (some ⟨ba, 0, none⟩)) a := fun W' h => Ta.out.grow (Below.grown HB9.out h HB9.out.size (fun q hq => (HO9.out.row.lt q hq).1))
      have HZK := Lib.hid hzk
      clear hA hzk HO HB
      go_wp2_with (at_builtin; refine wpList_append_own_at _ rfl (.tmp 17) (.tmp 20) 86 rfl E.heap.size 69 i0 (.pointer none) 1 8 Tryz.underlying86 hi0 hz0 hz1 hz2 rfl (by decide) (.slice p7 0 c7) 0 _ rfl (by have := HO9.out.row; exact this) ⟨wr.heap.size + 1, 0, none⟩ 1 1 [.pointer (some ⟨ba, 0, none⟩)] rfl rfl (by have := one_newN (wr.alloc (.cells #[.pointer (some ⟨ba, 0, none⟩), .pointer (some ⟨ca, 0, none⟩)] 96)) (.pointer (some ⟨ba, 0, none⟩)) 69; rw [alloc_sz] at this; exact this) (by simp [Value.oneCell']) (by unfold maxLen; omega) (by omega) (by rw [alloc_sz, alloc_sz]; omega) ?_)
      intro v' w10 hown hgr _ hat
      obtain ⟨p6, c6, rfl⟩ := own_slice hown
      have hpush := HO9.out.push (x := a) (v' := .slice p6 (0 + 1) c6) (W' := w10) HZK.out hown hgr (by rw [alloc_sz, alloc_sz]; exact hat)
      have hb10 : Below E.heap.size E w10 := Below.grown HB9.out hgr HB9.out.size (fun q hq => (HO9.out.row.lt q hq).1)
      have HP := Lib.hid hpush
      have HB10 := Lib.hid hb10
      clear hown hgr hat hpush hb10 HO9 HZK HB9 r0 r1
      go_wp2_with (fail)
      go_roundw
      case rel => exact ⟨0 + 1, _, by go_num, by omega, HP, HB10⟩
      case measure => simp [intOf]
    by_cases h1 : j = 1
    · subst h1
      have r0 : wr.cell? ⟨r, o + 2, none⟩ = some (.pointer (some ⟨bb, 0, none⟩)) := cell_grow Qb.out HB.out
      have r1 : wr.cell? ⟨r, o + 3, none⟩ = some (.pointer (some ⟨cb, 0, none⟩)) := cell_grow Rb.out HB.out
      have hA : Below wr.heap.size wr ((wr.alloc (.cells #[.pointer (some ⟨bb, 0, none⟩), .pointer (some ⟨cb, 0, none⟩)] 96)).alloc (.cells #[.pointer (some ⟨bb, 0, none⟩)] 69)) := ((Below.refl _ _).alloc (Nat.le_refl _) _).alloc (by rw [alloc_sz]; omega) _
      have HO9 := Lib.hid (HO.out.grow hA)
      have HB9 := Lib.hid (below_then HB.out hA)
      have hzk : ∀ W', ((wr.alloc (.cells #[.pointer (some ⟨bb, 0, none⟩), .pointer (some ⟨cb, 0, none⟩)] 96)).alloc (.cells #[.pointer (some ⟨bb, 0, none⟩)] 69)).grownBy W' (Value.slice p7 1 c7).ownBlock → TmP Fz W' (.pointer (some ⟨bb, 0, none⟩)) b := fun W' h => Tb.out.grow (Below.grown HB9.out h HB9.out.size (fun q hq => (HO9.out.row.lt q hq).1))
      have HZK := Lib.hid hzk
      clear hA hzk HO HB
      go_wp2_with (at_builtin; refine wpList_append_own_at _ rfl (.tmp 17) (.tmp 20) 86 rfl E.heap.size 69 i0 (.pointer none) 1 8 Tryz.underlying86 hi0 hz0 hz1 hz2 rfl (by decide) (.slice p7 1 c7) 1 _ rfl (by have := HO9.out.row; exact this) ⟨wr.heap.size + 1, 0, none⟩ 1 1 [.pointer (some ⟨bb, 0, none⟩)] rfl rfl (by have := one_newN (wr.alloc (.cells #[.pointer (some ⟨bb, 0, none⟩), .pointer (some ⟨cb, 0, none⟩)] 96)) (.pointer (some ⟨bb, 0, none⟩)) 69; rw [alloc_sz] at this; exact this) (by simp [Value.oneCell']) (by unfold maxLen; omega) (by omega) (by rw [alloc_sz, alloc_sz]; omega) ?_)
      intro v' w10 hown hgr _ hat
      obtain ⟨p6, c6, rfl⟩ := own_slice hown
      have hpush := HO9.out.push (x := b) (v' := .slice p6 (1 + 1) c6) (W' := w10) HZK.out hown hgr (by rw [alloc_sz, alloc_sz]; exact hat)
      have hb10 : Below E.heap.size E w10 := Below.grown HB9.out hgr HB9.out.size (fun q hq => (HO9.out.row.lt q hq).1)
      have HP := Lib.hid hpush
      have HB10 := Lib.hid hb10
      clear hown hgr hat hpush hb10 HO9 HZK HB9 r0 r1
      go_wp2_with (fail)
      go_roundw
      case rel => exact ⟨1 + 1, _, by go_num, by omega, HP, HB10⟩
      case measure => simp [intOf]
    obtain rfl : j = 2 := by omega
    have hlx := HO.out.lx (by simp [maxLen])
    have hblk := HO.out.blk rfl
    have htk : ([a, b] : List Ex).take 2 = [a, b] := rfl
    rw [htk] at hlx
    clear h0 h1 htk htl
    have HLX := Lib.hid hlx
    have HBK := Lib.hid hblk
    have hfz : Fz ≤ wr.heap.size := by have h1 := HF.out; have h2 := HES.out; omega
    have HFZ := Lib.hid hfz
    clear hlx hblk hfz
    go_wp2_with (fail)
    refine (number_ok (Fz := Fz) 0 _ (by decide) HFZ.out).mono ?_
    rintro en w3 ⟨z0, rfl, hz0', hB3⟩
    obtain ⟨bz, Sz, rfl, _⟩ := hz0'.root
    have hb3 := below_then HB.out hB3
    have hn3 := HN.out.grow hb3
    have HN3 := Lib.hid hn3
    have n0 := fun g : Grown w3 => heapN_cellj (HN3.out.grow g.h) (k := 0) (u := .int .i64 10) rfl
    have n1 := fun g : Grown w3 => heapN_cellj (HN3.out.grow g.h) (k := 1) (u := .int .i64 n) rfl
    have n2 := fun g : Grown w3 => heapN_cellj (HN3.out.grow g.h) (k := 2) (u := .int .i64 lo) rfl
    have n3 := fun g : Grown w3 => heapN_cellj (HN3.out.grow g.h) (k := 3) (u := .int .i64 hi) rfl
    have HZ0 := Lib.hid hz0'
    have HB3 := Lib.hid hb3
    have HL3 := Lib.hid (Lx.grow grows_tm HLX.out hB3)
    have HK3 := Lib.hid (fun (a : Addr) (ha : p7 = some a) => show Fz ≤ a.block from by have h0 := HBK.out a ha; have h1 := HF.out; have h2 := HES.out; omega)
    clear hz0' hb3 hn3 hB3 HO HB HLX HBK
    have hdv := HD.out.grow HB3.out
    have HDV := Lib.hid hdv
    have rl := fun g : Grown w3 => (HDV.out.grow g.h).rul.cell
    have lkf := fun g : Grown w3 => (HDV.out.grow g.h).map.get (i := 10) (by unfold W64; omega) ruleM_10
    have f0 := fun g : Grown w3 => cell_grow Qa.out (below_then HB3.out g.h)
    have f1 := fun g : Grown w3 => cell_grow Ra.out (below_then HB3.out g.h)
    have Pa := Lib.hid (fun g : Grown w3 => Ta.out.grow (below_then HB3.out g.h))
    have Za := Lib.hid (fun g : Grown w3 => Va.out.grow (below_then HB3.out g.h))
    have f2 := fun g : Grown w3 => cell_grow Qb.out (below_then HB3.out g.h)
    have f3 := fun g : Grown w3 => cell_grow Rb.out (below_then HB3.out g.h)
    have Pb := Lib.hid (fun g : Grown w3 => Tb.out.grow (below_then HB3.out g.h))
    have Zb := Lib.hid (fun g : Grown w3 => Vb.out.grow (below_then HB3.out g.h))
    clear hdv
    go_wp2_with (fail)
    refine region_pred (lk [(28, fun z_ _ => z_ = .map (some bm)), (29, fun z_ _ => z_ = .pointer (some ⟨W.heap.size, 0, none⟩)), (30, fun z_ _ => z_ = .int .i64 10), (31, fun z_ _ => z_ = .func (.func 108) #[] #[]), (32, fun z_ _ => z_ = .slice (some ⟨r, o, none⟩) 2 c), (33, fun z_ _ => z_ = .pointer (some ⟨r, o, none⟩)), (34, fun z_ _ => z_ = .agg #[.pointer (some ⟨ba, 0, none⟩), .pointer (some ⟨ca, 0, none⟩)]), (35, fun z_ _ => z_ = .slice (some ⟨r, o, none⟩) 2 c), (36, fun z_ _ => z_ = .slice (some ⟨r, o, none⟩) 2 c), (37, fun z_ _ => z_ = .int .i64 2), (38, fun z_ _ => z_ = .int .i64 1), (39, fun z_ _ => z_ = .pointer (some ⟨r, o + 2, none⟩)), (40, fun z_ _ => z_ = .agg #[.pointer (some ⟨bb, 0, none⟩), .pointer (some ⟨cb, 0, none⟩)]), (41, fun z_ w_ => TmQ Fz w_ z_ (rl2 10 (a, a') (b, b'))), (10, fun z_ w_ => TmQ Fz w_ z_ (rl2 10 (a, a') (b, b')))]) (by kernel_rfl) (by kernel_rfl) (lk_steady _ ⟨steady_eq _, steady_eq _, steady_eq _, steady_eq _, steady_eq _, steady_eq _, steady_eq _, steady_eq _, steady_eq _, steady_eq _, steady_eq _, steady_eq _, steady_eq _, steady_tmq _, steady_tmq _, trivial⟩) ?_ ?_
    · refine ⟨?_, ?_, ?_, ?_, ?_, ?_, ?_, ?_, ?_, ?_, ?_, ?_, ?_, ?_, ?_, trivial⟩
      · refine ob_plain [2] rfl rfl fun aa g h => ?_
        have yy0 := seen_out (v := .pointer (some ⟨rb, 0, none⟩)) rfl rfl h.1
        have ee0 := getD_of yy0
        exact tupon_value (v := .map (some bm)) (by simp [go_sem, ee0, yy0, rl g]) (Below.refl _ _) rfl
      · refine ob_plain [4] rfl rfl fun aa g h => ?_
        have yy0 := seen_out (v := .pointer (some ⟨W.heap.size, 0, none⟩)) rfl rfl h.1
        have ee0 := getD_of yy0
        exact tupon_value (v := .pointer (some ⟨W.heap.size, 0, none⟩)) (by simp [go_sem, ee0, yy0]) (Below.refl _ _) rfl
      · refine ob_plain [29] rfl rfl fun aa g h => ?_
        obtain ⟨_, yy0, rfl⟩ := seen_in rfl h.1
        have ee0 := getD_of yy0
        exact tupon_value (v := .int .i64 10) (by simp [go_sem, ee0, yy0, n0 g]) (Below.refl _ _) rfl
      · refine ob_plain [28, 30] rfl rfl fun aa g h => ?_
        obtain ⟨_, yy0, rfl⟩ := seen_in rfl h.1
        have ee0 := getD_of yy0
        obtain ⟨_, yy1, rfl⟩ := seen_in rfl h.2.1
        have ee1 := getD_of yy1
        exact tupon_value (v := .func (.func 108) #[] #[]) (by simp [go_sem, ee0, yy0, ee1, yy1, lkf g]) (Below.refl _ _) rfl
      · refine ob_plain [1] rfl rfl fun aa g h => ?_
        have yy0 := seen_out (v := .slice (some ⟨r, o, none⟩) 2 c) rfl rfl h.1
        have ee0 := getD_of yy0
        exact tupon_value (v := .slice (some ⟨r, o, none⟩) 2 c) (by simp [go_sem, ee0, yy0]) (Below.refl _ _) rfl
      · refine ob_plain [32] rfl rfl fun aa g h => ?_
        obtain ⟨_, yy0, rfl⟩ := seen_in rfl h.1
        have ee0 := getD_of yy0
        exact tupon_value (v := .pointer (some ⟨r, o, none⟩)) (by simp [go_sem, ee0, yy0]) (Below.refl _ _) rfl
      · refine ob_plain [33] rfl rfl fun aa g h => ?_
        obtain ⟨_, yy0, rfl⟩ := seen_in rfl h.1
        have ee0 := getD_of yy0
        exact tupon_value (v := .agg #[.pointer (some ⟨ba, 0, none⟩), .pointer (some ⟨ca, 0, none⟩)]) (by simp [go_sem, ee0, yy0, f0 g, f1 g]) (Below.refl _ _) rfl
      · refine ob_plain [1] rfl rfl fun aa g h => ?_
        have yy0 := seen_out (v := .slice (some ⟨r, o, none⟩) 2 c) rfl rfl h.1
        have ee0 := getD_of yy0
        exact tupon_value (v := .slice (some ⟨r, o, none⟩) 2 c) (by simp [go_sem, ee0, yy0]) (Below.refl _ _) rfl
      · refine ob_plain [1] rfl rfl fun aa g h => ?_
        have yy0 := seen_out (v := .slice (some ⟨r, o, none⟩) 2 c) rfl rfl h.1
        have ee0 := getD_of yy0
        exact tupon_value (v := .slice (some ⟨r, o, none⟩) 2 c) (by simp [go_sem, ee0, yy0]) (Below.refl _ _) rfl
      · refine ob_plain [36] rfl rfl fun aa g h => ?_
        obtain ⟨_, yy0, rfl⟩ := seen_in rfl h.1
        have ee0 := getD_of yy0
        exact tupon_value (v := .int .i64 2) (by simp [go_sem, ee0, yy0]) (Below.refl _ _) rfl
      · refine ob_plain [37] rfl rfl fun aa g h => ?_
        obtain ⟨_, yy0, rfl⟩ := seen_in rfl h.1
        have ee0 := getD_of yy0
        exact tupon_value (v := .int .i64 1) (by simp [go_sem, ee0, yy0, wrap_1]) (Below.refl _ _) rfl
      · refine ob_plain [35, 38] rfl rfl fun aa g h => ?_
        obtain ⟨_, yy0, rfl⟩ := seen_in rfl h.1
        have ee0 := getD_of yy0
        obtain ⟨_, yy1, rfl⟩ := seen_in rfl h.2.1
        have ee1 := getD_of yy1
        exact tupon_value (v := .pointer (some ⟨r, o + 2, none⟩)) (by simp [go_sem, ee0, yy0, ee1, yy1]) (Below.refl _ _) rfl
      · refine ob_plain [39] rfl rfl fun aa g h => ?_
        obtain ⟨_, yy0, rfl⟩ := seen_in rfl h.1
        have ee0 := getD_of yy0
        exact tupon_value (v := .agg #[.pointer (some ⟨bb, 0, none⟩), .pointer (some ⟨cb, 0, none⟩)]) (by simp [go_sem, ee0, yy0, f2 g, f3 g]) (Below.refl _ _) rfl
      · refine ob_plain [31, 34, 40] rfl rfl fun aa g h => ?_
        obtain ⟨_, yy0, rfl⟩ := seen_in rfl h.1
        have ee0 := getD_of yy0
        obtain ⟨_, yy1, rfl⟩ := seen_in rfl h.2.1
        have ee1 := getD_of yy1
        obtain ⟨_, yy2, rfl⟩ := seen_in rfl h.2.2.1
        have ee2 := getD_of yy2
        refine tupon_enter (f := 108) (args := #[.agg #[.pointer (some ⟨ba, 0, none⟩), .pointer (some ⟨ca, 0, none⟩)], .agg #[.pointer (some ⟨bb, 0, none⟩), .pointer (some ⟨cb, 0, none⟩)]]) (by simp [go_sem, ee0, yy0, ee1, yy1, ee2, yy2]) rfl ?_
        exact (rule5_ok N _ _ _ _ a a' b b' g.w (Pa.out g) (Za.out g) (Pb.out g) (Zb.out g) Xa.out Ya.out Xb.out Yb.out).mono fun e w' ⟨z, he, hz, hB⟩ => ⟨_, he, hB, tmq_of hz⟩
      · refine ob_plain [41] rfl rfl fun aa g h => ?_
        obtain ⟨_, yy0, ⟨b41, rfl, hz41⟩⟩ := seen_in rfl h.1
        have ee0 := getD_of yy0
        exact tupon_value (v := .pointer (some ⟨b41, 0, none⟩)) (by simp [go_sem, ee0, yy0]) (Below.refl _ _) ⟨_, rfl, hz41⟩
    rintro w5 hB _ rfl _ rfl _ rfl _ rfl _ rfl _ rfl _ rfl _ rfl _ rfl _ rfl _ rfl _ rfl _ rfl _ ⟨b41, rfl, hz41⟩ _ ⟨b10, rfl, hz10⟩
    simp only [Act.put, List.setIfInBounds_toArray, List.set_cons_succ, List.set_cons_zero, List.filterMap_nil, finP]
    have hz10' : TmP Fz w5 (.pointer (some ⟨b10, 0, none⟩)) res2 := by have := R2.out; rw [← this]; exact hz10
    have HZ5 := Lib.hid hz10'
    have HB5 := Lib.hid hB
    clear hz10 hz41 hz10' hB rl lkf f0 f1 f2 f3 Pa Za Pb Zb
    have a0 := n0 ⟨w5, HB5.out⟩
    have a1 := n1 ⟨w5, HB5.out⟩
    have a2 := n2 ⟨w5, HB5.out⟩
    have a3 := n3 ⟨w5, HB5.out⟩
    dsimp only at a0 a1 a2 a3
    clear n0 n1 n2 n3
    go_wp2_with (fail)
    refine (simpL_ok (Fz := Fz) N 10 n lo hi p7 c7 [a, b] w5 (Lx.grow grows_tm HL3.out (HB5.out)) HK3.out (HZ5.out.fz) rfl (by simp; exact ⟨Xa.out, Xb.out⟩)).mono ?_
    rintro en w7 ⟨z7, rfl, hz7, hB7⟩
    obtain ⟨b7, S7, rfl, _⟩ := hz7.root
    have hb7 := below_then HB3.out (below_then (HB5.out) hB7)
    have hr7 := HR.out.grow hb7
    have q0 := heapN_cellj hr7 (k := 0) (u := .pointer none) rfl
    have q1 := heapN_cellj hr7 (k := 1) (u := .pointer none) rfl
    have y0 : w7.frozen? ⟨W.heap.size + 1, 0, none⟩ = false := by simp [World.frozen?, show w7.heap[W.heap.size + 1]? = _ from hr7]
    have y1 : w7.frozen? ⟨W.heap.size + 1, 1, none⟩ = false := by simp [World.frozen?, show w7.heap[W.heap.size + 1]? = _ from hr7]
    rw [R1.out] at hz7
    obtain ⟨w8, e8, hI8, hO8⟩ := set2 hr7 (.pointer (some ⟨b7, 0, none⟩)) (.pointer (some ⟨b10, 0, none⟩))
    have x0 := heapN_cellj hI8 (k := 0) (u := .pointer (some ⟨b7, 0, none⟩)) rfl
    have x1 := heapN_cellj hI8 (k := 1) (u := .pointer (some ⟨b10, 0, none⟩)) rfl
    have hb8 : Below W.heap.size W w8 := hO8.bel (below_then HE.out hb7) (by omega) (by have := HE.out.size; have := hb7.size; omega)
    have HK1 := Lib.hid (tm_oth hr7 hO8 hz7)
    have HK2 := Lib.hid (tm_oth hr7 hO8 (HZ5.out.grow hB7))
    have HB8 := Lib.hid hb8
    rw [← e8] at x0 x1
    have HE8 := Lib.hid e8
    clear a0 a1 a2 a3 hz7 hB7 hb7 hr7 e8 hI8 hO8 hb8
    go_wp2_with (fail)
    refine bodyPost_ret (v := .agg #[.pointer (some ⟨b7, 0, none⟩), .pointer (some ⟨b10, 0, none⟩)]) (by simp [results, Tryz.results78, go_sem, x0, x1]) rfl ?_
    rw [HE8.out]
    exact ⟨_, _, rfl, HK1.out, HK2.out, HB8.out⟩
end Go.Proofs.YtbppfohcicepcaaGreat
