/-
  Package picard: Enclose.
-/
import Derived.Test.YtecmgiihacigaaaVd
namespace Go.Proofs.Ytecmgiihacigaaa
open Go.ChangeShapes Go.WideShapes Go.ChangeAt Go.RowKit Go.Shelf
set_option linter.unusedVariables false
set_option linter.unusedSimpArgs false
set_option maxRecDepth 100000
attribute [local go_sem] Oper.semAt_some
attribute [local irreducible] Calls
/-- What the search ends in. -/
def encR (img : List (Int × Int) → List (Int × Int)) (X : List (Int × Int)) : Option (List (Int × Int)) := encG img 8 (hulL X (img X))
theorem encG_at (img : List (Int × Int) → List (Int × Int)) (X : List (Int × Int)) (k n : Nat) (h : k + n = 8) (hg : encG img n (hsq img X k) = encR img X) (hn : 0 < n) :
    ((bndB (infL (hsq img X k)) && bndB (img (infL (hsq img X k)))) = false → encR img X = none) ∧
    ((bndB (infL (hsq img X k)) && bndB (img (infL (hsq img X k)))) = true → subB (img (infL (hsq img X k))) (infL (hsq img X k)) = true → encR img X = some (img (infL (hsq img X k)))) ∧
    ((bndB (infL (hsq img X k)) && bndB (img (infL (hsq img X k)))) = true → subB (img (infL (hsq img X k))) (infL (hsq img X k)) = false → encG img (n - 1) (hsq img X (k + 1)) = encR img X) := by
  obtain ⟨m, rfl⟩ : ∃ m, n = m + 1 := ⟨n - 1, by omega⟩
  have hs : encG img (m + 1) (hsq img X k) = if (bndB (infL (hsq img X k)) && bndB (img (infL (hsq img X k)))) = false then none else if subB (img (infL (hsq img X k))) (infL (hsq img X k)) = true then some (img (infL (hsq img X k))) else encG img m (hulL (infL (hsq img X k)) (img (infL (hsq img X k)))) := rfl
  rw [hs] at hg
  refine ⟨fun h1 => ?_, fun h1 h2 => ?_, fun h1 h2 => ?_⟩
  · rw [← hg, if_pos h1]
  · rw [← hg, if_neg (by rw [h1]; decide), if_pos h2]
  · rw [if_neg (by rw [h1]; decide), if_neg (by rw [h2]; decide)] at hg
    exact hg
theorem vx_setb {W : World} {v u : Value} {t : TypeId} {l : List (Int × Int)} {B : Nat} (h : Vx W v l) (hb : Boxed W B t u) (hu : ∀ k n, u ≠ .int k n) (y : Value) : Vx (W.setCell ⟨B, 0, none⟩ y) v l := by
  obtain ⟨h1, p, c, rfl, h2⟩ := h
  have hg := grownBy_setCell' W B y
  refine ⟨h1, p, c, rfl, fun i x hx => ?_⟩
  obtain ⟨b, o, rfl, h3, h4⟩ := h2 i x hx
  refine ⟨b, o, rfl, Nat.lt_of_lt_of_le h3 hg.size, fun j z hz => ?_⟩
  have hc := h4 j z hz
  refine hg.cell hc fun e => ?_
  obtain rfl : b = B := Option.some.inj e
  unfold World.cell? at hc
  rw [show W.heap[b]? = _ from hb] at hc
  simp only [Option.isSome_none, Bool.false_eq_true, if_false] at hc
  cases ho : o + i * 2 + j with
  | zero =>
    rw [ho] at hc
    have e2 : u = z := by simpa using hc
    subst e2
    unfold encB at hz
    match j, hz with
    | 0, hz => cases hz; exact hu _ _ rfl
    | 1, hz => cases hz; exact hu _ _ rfl
    | j + 2, hz => cases hz
  | succ m => rw [ho] at hc; simp at hc
theorem attempts_ok (N T H : Int) (vl vo : Value) (px : Option Addr) (m cx : Nat) (w : World) :
    Calls Try.prog 36 #[.agg #[.int .i64 N, vl, vo], .slice px m cx, .agg #[.int .i64 T, .int .i64 H]] w fun e w' => e = .returned (.func (.func 60) #[] #[.pointer (some ⟨w.heap.size + 1, 0, none⟩), .pointer (some ⟨w.heap.size, 0, none⟩), .pointer (some ⟨w.heap.size + 2, 0, none⟩)]) ∧
      w' = ((w.alloc (.cells #[.int .i64 N, vl, vo] 25)).alloc (.cells #[.slice px m cx] 26)).alloc (.cells #[.int .i64 T, .int .i64 H] 33) := by
  go_enter Try.func36, Try.ntmps36
  go_wp2_with (fail)
  go_ret
  exact ⟨rfl, rfl⟩

set_option maxHeartbeats 16000000 in
theorem encl_in (n : Nat) (hn : 4 ≤ n) (N T H : Int) (vl vo vx : Value) (L : List Is) (O : List Int) (X : List (Int × Int)) (w : World) (hl : Ix w vl L) (ho : Px w vo O) (hx : Vx w vx X) (htv : tvB N L O = true) (hXN : (X.length : Int) = N) (hvx : ∀ p ∈ X, VI p.1 p.2) (ht1 : -1048576 ≤ T) (ht2 : T ≤ 1048576) (h0 : 0 ≤ H) (h1 : H ≤ 1000000) (r : Option (List (Int × Int))) (hr : encR (imgT L O T H X) X = r) :
    CallsIn Fence.wide n Try.prog 14 #[.agg #[.int .i64 N, vl, vo], vx, .agg #[.int .i64 T, .int .i64 H]] w fun e w' => ∃ v, e = .returned (.tuple #[v, .bool r.isSome]) ∧ Vx w' v (r.getD []) ∧ Below w.heap.size w w' := by
  obtain ⟨px, cx, rfl⟩ := hx.cut
  obtain ⟨hn1, hn6, h400, hon, hvl, hout⟩ := tv_cases htv
  have himg : ∀ B : List (Int × Int), B.length = X.length → (∀ p ∈ B, VI p.1 p.2) → (imgT L O T H X B).length = X.length ∧ ∀ p ∈ imgT L O T H X B, VI p.1 p.2 := fun B hB hv => ⟨imgT_len htv hXN, imgT_vi htv hvx hv ht1 ht2 h0 h1⟩
  have HS := Lib.hid (hsq_ok hvx himg)
  have IMG := Lib.hid himg
  have KB := Lib.hid (fun (v : Value) (B : List (Int × Int)) (r : Bool) (w : World) a (hB : B.length = X.length) b c => bnd_ok v B r w a b (by omega) (by omega) c)
  have KS := Lib.hid (fun (va vb : Value) (A B : List (Int × Int)) (w : World) (a : Vx w va A) (b : Vx w vb B) (hA : A.length = X.length) (hB : B.length = X.length) => box_subset va vb A B w (vx_bx a) (vx_bx b) (by omega))
  have KA := Lib.hid (fun w => attempts_ok N T H vl vo px X.length cx w)
  have hba : Below w.heap.size w ((((w.alloc (.cells #[.int .i64 N, vl, vo] 25)).alloc (.cells #[.int .i64 T, .int .i64 H] 33)).alloc (.cells #[.slice none 0 0] 26)).alloc (.cells #[.bool false] 4)) := allocs_below [.cells #[.int .i64 N, vl, vo] 25, .cells #[.int .i64 T, .int .i64 H] 33, .cells #[.slice none 0 0] 26, .cells #[.bool false] 4] w
  have HC := Lib.hid (show Blk ((((w.alloc (.cells #[.int .i64 N, vl, vo] 25)).alloc (.cells #[.int .i64 T, .int .i64 H] 33)).alloc (.cells #[.slice none 0 0] 26)).alloc (.cells #[.bool false] 4)) w.heap.size (.cells #[.int .i64 N, vl, vo] 25) from allocs_at [.cells #[.int .i64 N, vl, vo] 25, .cells #[.int .i64 T, .int .i64 H] 33, .cells #[.slice none 0 0] 26, .cells #[.bool false] 4] w 0 _ rfl)
  have HSt := Lib.hid (show Blk ((((w.alloc (.cells #[.int .i64 N, vl, vo] 25)).alloc (.cells #[.int .i64 T, .int .i64 H] 33)).alloc (.cells #[.slice none 0 0] 26)).alloc (.cells #[.bool false] 4)) (w.heap.size + 1) (.cells #[.int .i64 T, .int .i64 H] 33) from allocs_at [.cells #[.int .i64 N, vl, vo] 25, .cells #[.int .i64 T, .int .i64 H] 33, .cells #[.slice none 0 0] 26, .cells #[.bool false] 4] w 1 _ rfl)
  have HZN := Lib.hid (show Blk ((((w.alloc (.cells #[.int .i64 N, vl, vo] 25)).alloc (.cells #[.int .i64 T, .int .i64 H] 33)).alloc (.cells #[.slice none 0 0] 26)).alloc (.cells #[.bool false] 4)) (w.heap.size + 2) (.cells #[.slice none 0 0] 26) from allocs_at [.cells #[.int .i64 N, vl, vo] 25, .cells #[.int .i64 T, .int .i64 H] 33, .cells #[.slice none 0 0] 26, .cells #[.bool false] 4] w 2 _ rfl)
  have HZB := Lib.hid (show Blk ((((w.alloc (.cells #[.int .i64 N, vl, vo] 25)).alloc (.cells #[.int .i64 T, .int .i64 H] 33)).alloc (.cells #[.slice none 0 0] 26)).alloc (.cells #[.bool false] 4)) (w.heap.size + 3) (.cells #[.bool false] 4) from allocs_at [.cells #[.int .i64 N, vl, vo] 25, .cells #[.int .i64 T, .int .i64 H] 33, .cells #[.slice none 0 0] 26, .cells #[.bool false] 4] w 3 _ rfl)
  have HX := Lib.hid (hx.grow hba)
  have HW := Lib.hid hba
  have hsz4 : ((((w.alloc (.cells #[.int .i64 N, vl, vo] 25)).alloc (.cells #[.int .i64 T, .int .i64 H] 33)).alloc (.cells #[.slice none 0 0] 26)).alloc (.cells #[.bool false] 4)).heap.size = w.heap.size + 4 := by simp only [World.size_alloc]
  have c0 := heapN_cellj HC.out (k := 0) rfl
  have c1 := heapN_cellj HC.out (k := 1) rfl
  have c2 := heapN_cellj HC.out (k := 2) rfl
  have s0 := heapN_cellj HSt.out (k := 0) rfl
  have s1 := heapN_cellj HSt.out (k := 1) rfl
  have AS := Lib.hid (fun (b1 b2 b3 : Nat) (w' : World) (a : Blk w' b1 (.cells #[.slice px X.length cx] 26)) (b : Blk w' b2 (.cells #[.int .i64 N, vl, vo] 25)) (c : Blk w' b3 (.cells #[.int .i64 T, .int .i64 H] 33)) (hb : Below w.heap.size w w') => att_seq (n - 1) (by omega) N T H vl vo px cx L O X b1 b2 b3 w' a b c (hl.grow hb) (ho.grow hb) (hx.grow hb) htv hXN hvx ht1 ht2 h0 h1)
  obtain ⟨img, hig⟩ : ∃ img, imgT L O T H X = img := ⟨_, rfl⟩
  rw [hig] at HS IMG AS hr
  have HR := Lib.hid hr
  have HSZ := Lib.hid hsz4
  clear hsz4 hl ho hx hvx htv hXN ht1 ht2 h0 h1 himg hn1 hn6 h400 hon hvl hout hba hig hr HC HSt
  refine callsIn_of_wp_marks Try.func14 rfl trivial ?_ rfl
  simp only [Try.ntmps14, List.size_toArray, List.length_cons, List.length_nil, Nat.reduceAdd, Nat.reduceSub, Array.replicate_succ, Array.replicate_zero, List.push_toArray, List.append_toArray, List.nil_append, List.cons_append]
  gi_wp2_with (fail)
  refine wpIn_wide.2 (wp_scope_straight ((wpIn_wide (n := n)).1 ?_))
  gi_wp2_with (fail)
  refine wpIn_label ?_
  gi_wp2_with (fail)
  generalize hW4 : World.alloc (World.alloc (World.alloc (World.alloc w _) _) _) _ = W4 at *
  clear hW4
  refine ⟨trivial, fun _ => by omega, (callsIn_wide.2 (KA.out _)).mono ?_⟩
  rintro e w5 ⟨rfl, rfl⟩
  obtain ⟨W5, hW5⟩ : ∃ W5, (((W4.alloc (.cells #[.int .i64 N, vl, vo] 25)).alloc (.cells #[.slice px X.length cx] 26)).alloc (.cells #[.int .i64 T, .int .i64 H] 33)) = W5 := ⟨_, rfl⟩
  have hb5 : Below W4.heap.size W4 W5 := by rw [← hW5]; exact allocs_below [.cells #[.int .i64 N, vl, vo] 25, .cells #[.slice px X.length cx] 26, .cells #[.int .i64 T, .int .i64 H] 33] W4
  have B2 := Lib.hid (show Blk W5 W4.heap.size (.cells #[.int .i64 N, vl, vo] 25) from by rw [← hW5]; exact allocs_at [.cells #[.int .i64 N, vl, vo] 25, .cells #[.slice px X.length cx] 26, .cells #[.int .i64 T, .int .i64 H] 33] W4 0 _ rfl)
  have B1 := Lib.hid (show Blk W5 (W4.heap.size + 1) (.cells #[.slice px X.length cx] 26) from by rw [← hW5]; exact allocs_at [.cells #[.int .i64 N, vl, vo] 25, .cells #[.slice px X.length cx] 26, .cells #[.int .i64 T, .int .i64 H] 33] W4 1 _ rfl)
  have B3 := Lib.hid (show Blk W5 (W4.heap.size + 2) (.cells #[.int .i64 T, .int .i64 H] 33) from by rw [← hW5]; exact allocs_at [.cells #[.int .i64 N, vl, vo] 25, .cells #[.slice px X.length cx] 26, .cells #[.int .i64 T, .int .i64 H] 33] W4 2 _ rfl)
  rw [hW5]
  have HB5 := Lib.hid (below_then HW.out hb5)
  have Z5 := Lib.hid (show Boxed W5 (w.heap.size + 1 + 1) 26 (.slice none 0 0) from HZN.out.grow hb5)
  have Y5 := Lib.hid (show Boxed W5 (w.heap.size + 1 + 1 + 1) 4 (.bool false) from HZB.out.grow hb5)
  have hs5 : w.heap.size + 4 ≤ W5.heap.size := by have := hb5.size; have := HSZ.out; omega
  have HS5 := Lib.hid hs5
  clear hW5 hb5 hs5 HZN HZB HW HX KA c0 c1 c2 s0 s1
  gi_wp2_with (fail)
  refine rf_nat n (by omega) (gf := 60) (lb := #[.pointer (some ⟨W4.heap.size + 1, 0, none⟩), .pointer (some ⟨W4.heap.size, 0, none⟩), .pointer (some ⟨W4.heap.size + 2, 0, none⟩)]) rfl (enters_of Try.func60 (by kernel_rfl) rfl) 8 _ ?hYs
    (fun k => encG img (8 - k) (hsq img X k) = encR img X)
    (fun c i W => Below w.heap.size w W ∧ ((c = .ret ∧ ∃ v d, encR img X = some d ∧ Vx W v d ∧ Boxed W (w.heap.size + 1 + 1) 26 v ∧ Boxed W (w.heap.size + 1 + 1 + 1) 4 (.bool true)) ∨ (c = .exit 0 ∧ encR img X = none ∧ Boxed W (w.heap.size + 1 + 1) 26 (.slice none 0 0) ∧ Boxed W (w.heap.size + 1 + 1 + 1) 4 (.bool false))))
    (AS.out _ _ _ W5 B1.out B2.out B3.out HB5.out) ?hIx ?hIxB
    (fun i xs a' W => ∃ v1 v2, xs = #[v1, v2] ∧ Vx W v1 (infL (hsq img X i)) ∧ Vx W v2 (img (infL (hsq img X i))) ∧ a' = { tmps := #[.agg #[.int .i64 N, vl, vo], .slice px X.length cx, .agg #[.int .i64 T, .int .i64 H], .pointer (some ⟨w.heap.size, 0, none⟩), undef, .pointer (some ⟨w.heap.size + 1, 0, none⟩), .pointer (some ⟨w.heap.size + 1 + 1, 0, none⟩), .pointer (some ⟨w.heap.size + 1 + 1 + 1, 0, none⟩), v1, v2, .agg #[.int .i64 N, vl, vo], .slice px X.length cx, .agg #[.int .i64 T, .int .i64 H], .func (.func 60) #[] #[.pointer (some ⟨W4.heap.size + 1, 0, none⟩), .pointer (some ⟨W4.heap.size, 0, none⟩), .pointer (some ⟨W4.heap.size + 2, 0, none⟩)], v1, v2, undef, undef, undef, undef, undef, undef, undef, undef, undef, undef, undef, undef, undef, undef], defers := [] }) ?hAx rfl ?hassign ?hbody ?hdone ?hstop
  case hYs => rintro i xs W ⟨v1, v2, rfl, _⟩; rfl
  case hIx =>
    rintro c i A k o o' ⟨hB, h⟩ hk ho hn
    have h5 := HS5.out
    refine ⟨hB.grown (grownBy_putObj' A k o') hB.size (fun j e => by cases e; omega), ?_⟩
    have kp : ∀ (b : Nat) (t : TypeId) (v : Value), b < W5.heap.size → Boxed A b t v → Boxed (A.putObj k o') b t v := fun b t v hb h => (World.putObj_heap_other (by omega)).trans h
    rcases h with ⟨rfl, v, d, e1, e2, e3, e4⟩ | ⟨rfl, e1, e3, e4⟩
    · exact .inl ⟨rfl, v, d, e1, vx_put e2 ho hn, kp _ _ _ (by omega) e3, kp _ _ _ (by omega) e4⟩
    · exact .inr ⟨rfl, e1, kp _ _ _ (by omega) e3, kp _ _ _ (by omega) e4⟩
  case hIxB =>
    rintro c i A B ⟨hB, h⟩ hAB
    refine ⟨below_then hB hAB, ?_⟩
    rcases h with ⟨rfl, v, d, e1, e2, e3, e4⟩ | ⟨rfl, e1, e3, e4⟩
    · exact .inl ⟨rfl, v, d, e1, e2.grow hAB, (hAB.block _ e3.lt).trans e3, (hAB.block _ e4.lt).trans e4⟩
    · exact .inr ⟨rfl, e1, (hAB.block _ e3.lt).trans e3, (hAB.block _ e4.lt).trans e4⟩
  case hAx =>
    rintro i xs a' A k o o' ⟨v1, v2, rfl, e1, e2, e3⟩ hk ho hn
    exact ⟨v1, v2, rfl, vx_put e1 ho hn, vx_put e2 ho hn, e3⟩
  case hassign =>
    rintro l i xs W K ⟨v1, v2, rfl, e1, e2⟩ hK
    gi_wp2
    exact hK _ _ (Below.refl _ _) ⟨v1, v2, rfl, e1, e2, rfl⟩
  case hbody =>
    rintro l i xs a' W hl ⟨r0, hr0⟩ hp hi hB ⟨v1, v2, rfl, e1, e2, rfl⟩
    obtain ⟨hlk, hvk⟩ := HS.out i
    have hli := inf_len (hsq img X i)
    rw [hlk] at hli
    have hvi := inf_vi hvk
    obtain ⟨hil, hiv⟩ := IMG.out _ hli hvi
    have hst := encG_at img X i (8 - i) (by omega) hp (by omega)
    obtain ⟨cnd, hcnd⟩ : ∃ c, infL (hsq img X i) = c := ⟨_, rfl⟩
    rw [hcnd] at hli hvi hil hiv hst e1 e2
    obtain ⟨im, him⟩ : ∃ c, img cnd = c := ⟨_, rfl⟩
    rw [him] at hil hiv hst e2
    obtain ⟨p2, c2, rfl⟩ := e2.cut
    obtain ⟨n1, hn1⟩ : ∃ b, bndB cnd = b := ⟨_, rfl⟩
    obtain ⟨n2, hn2⟩ : ∃ b, bndB im = b := ⟨_, rfl⟩
    obtain ⟨s, hs⟩ : ∃ b, subB im cnd = b := ⟨_, rfl⟩
    rw [hn1, hn2, hs] at hst
    have KB1 := Lib.hid (fun w a => KB.out v1 cnd n1 w a hli hvi hn1)
    have KB2 := Lib.hid (fun w a => KB.out (.slice p2 im.length c2) im n2 w a hil hiv hn2)
    have KS1 := Lib.hid (fun w a b => KS.out (.slice p2 im.length c2) v1 im cnd w a b hil hli)
    rw [show (im.zip cnd).all sub1 = s from hs] at KS1
    have ST := Lib.hid hst
    have E1 := Lib.hid e1
    have E2 := Lib.hid e2
    have HBW := Lib.hid (HB5.out.trans (hB.mono HB5.out.size))
    have ZW := Lib.hid (show Boxed W (w.heap.size + 1 + 1) 26 (.slice none 0 0) from (hB.block _ Z5.out.lt).trans Z5.out)
    have YW := Lib.hid (show Boxed W (w.heap.size + 1 + 1 + 1) 4 (.bool false) from (hB.block _ Y5.out.lt).trans Y5.out)
    clear hlk hvk hli hvi hil hiv hst hcnd him hn1 hn2 hs e1 e2 hp hB KB KS HS IMG AS hr0 Z5 Y5 HB5
    gi_wp2_with (fail)
    refine ⟨trivial, fun h => (by cases h), (CallsIn.inRound l (callsIn_wide.2 (KB1.out _ E1.out))).mono ?_⟩
    rintro e w6 ⟨rfl, hB6⟩
    have E1 := Lib.hid (E1.out.grow hB6)
    have E2 := Lib.hid (E2.out.grow hB6)
    have HB6 := Lib.hid hB6
    clear hB6
    cases n1 with
    | false =>
      gi_wp2_with (fail)
      refine ⟨trivial, ?_⟩
      gi_wp2_with (fail)
      exact ⟨keep_below HB6.out, below_then HBW.out HB6.out, .inr ⟨rfl, ST.out.1 rfl, (HB6.out.block _ ZW.out.lt).trans ZW.out, (HB6.out.block _ YW.out.lt).trans YW.out⟩⟩
    | true =>
      gi_wp2_with (fail)
      refine ⟨trivial, fun h => (by cases h), (CallsIn.inRound l (callsIn_wide.2 (KB2.out _ E2.out))).mono ?_⟩
      rintro e w7 ⟨rfl, hB7⟩
      have E1 := Lib.hid (E1.out.grow hB7)
      have E2 := Lib.hid (E2.out.grow hB7)
      have HB7 := Lib.hid (below_then HB6.out hB7)
      clear hB7 HB6
      cases n2 with
      | false =>
        gi_wp2_with (fail)
        exact ⟨keep_below HB7.out, below_then HBW.out HB7.out, .inr ⟨rfl, ST.out.1 rfl, (HB7.out.block _ ZW.out.lt).trans ZW.out, (HB7.out.block _ YW.out.lt).trans YW.out⟩⟩
      | true =>
        gi_wp2_with (fail)
        refine ⟨trivial, fun h => (by cases h), (CallsIn.inRound l (callsIn_wide.2 (KS1.out _ E2.out E1.out))).mono ?_⟩
        rintro e w8 ⟨rfl, hB8⟩
        have E2 := Lib.hid (E2.out.grow hB8)
        have HB8 := Lib.hid (below_then HB7.out hB8)
        clear hB8 HB7 E1
        cases s with
        | false =>
          gi_wp2_with (fail)
          exact ⟨HB8.out, by show encG img (8 - (i + 1)) (hsq img X (i + 1)) = _; rw [show 8 - (i + 1) = 8 - i - 1 from by omega]; exact ST.out.2.2 (by trivial) (by trivial)⟩
        | true =>
          have z4 : Boxed w8 (w.heap.size + 1 + 1) 26 (.slice none 0 0) := (HB8.out.block _ ZW.out.lt).trans ZW.out
          have y4 : Boxed w8 (w.heap.size + 1 + 1 + 1) 4 (.bool false) := (HB8.out.block _ YW.out.lt).trans YW.out
          have Z4 := Lib.hid z4
          have Y4 := Lib.hid y4
          have q1 := z4.cell
          have q2 := z4.frozen
          have q3 := (y4.other (B' := w.heap.size + 1 + 1) (by omega) (.slice p2 im.length c2)).cell
          have q4 := (y4.other (B' := w.heap.size + 1 + 1) (by omega) (.slice p2 im.length c2)).frozen
          clear z4 y4
          gi_wp2_with (fail)
          have ko := (KeepsOthers.setCell w8 ⟨w.heap.size + 1 + 1, 0, none⟩ (.slice p2 im.length c2)).trans (KeepsOthers.setCell _ ⟨w.heap.size + 1 + 1 + 1, 0, none⟩ (.bool true))
          refine ⟨⟨Nat.le_trans HB8.out.size ko.size, fun k o hk h1 h2 => ko.same k o ((keep_below HB8.out).2 k o hk h1 h2) h2⟩, ?_, .inl ⟨rfl, .slice p2 im.length c2, im, ST.out.2.1 (by trivial) (by trivial), ?_, ?_, ?_⟩⟩
          · exact ((below_then HBW.out HB8.out).setCell (p := ⟨w.heap.size + 1 + 1, 0, none⟩) (by show w.heap.size ≤ w.heap.size + 1 + 1; omega) _).setCell (p := ⟨w.heap.size + 1 + 1 + 1, 0, none⟩) (by show w.heap.size ≤ w.heap.size + 1 + 1 + 1; omega) _
          · exact vx_setb (vx_setb E2.out Z4.out (fun k n e => by cases e) _) (Y4.out.other (B' := w.heap.size + 1 + 1) (by omega) _) (fun k n e => by cases e) _
          · exact (Z4.out.set _).other (B' := w.heap.size + 1 + 1 + 1) (by omega) _
          · exact (Y4.out.other (B' := w.heap.size + 1 + 1) (by omega) _).set _
  case hdone =>
    rintro W hp hB hK
    have hnone : encR img X = none := hp.symm
    have HBW := Lib.hid (HB5.out.trans (hB.mono HB5.out.size))
    have z4 : Boxed W (w.heap.size + 1 + 1) 26 (.slice none 0 0) := (hB.block _ Z5.out.lt).trans Z5.out
    have y4 : Boxed W (w.heap.size + 1 + 1 + 1) 4 (.bool false) := (hB.block _ Y5.out.lt).trans Y5.out
    have q1 := z4.cell
    have q2 := z4.frozen
    have q3 := (y4.other (B' := w.heap.size + 1 + 1) (by omega) (.slice none 0 0)).cell
    have q4 := (y4.other (B' := w.heap.size + 1 + 1) (by omega) (.slice none 0 0)).frozen
    have Z4 := Lib.hid z4
    have Y4 := Lib.hid y4
    have HNONE := Lib.hid hnone
    clear z4 y4 hnone hB
    gi_wp2
    have hK' := ((KeepsOthers.setCell W ⟨w.heap.size + 1 + 1, 0, none⟩ (.slice none 0 0)).trans (KeepsOthers.setCell _ ⟨w.heap.size + 1 + 1 + 1, 0, none⟩ (.bool false))).same W5.heap.size _ hK rfl
    have h4 := (Z4.out.set (.slice none 0 0)).other (B' := w.heap.size + 1 + 1 + 1) (by omega) (.bool false)
    have h5 := (Y4.out.other (B' := w.heap.size + 1 + 1) (by omega) (.slice none 0 0)).set (.bool false)
    have hBs := (HBW.out.setCell (p := ⟨w.heap.size + 1 + 1, 0, none⟩) (by show w.heap.size ≤ w.heap.size + 1 + 1; omega) (.slice none 0 0)).setCell (p := ⟨w.heap.size + 1 + 1 + 1, 0, none⟩) (by show w.heap.size ≤ w.heap.size + 1 + 1 + 1; omega) (.bool false)
    have hvn : ∀ W : World, Vx W (.slice none 0 0) [] := fun W => Rx.nil W none 0
    unfold Exit.noGoto
    have hc4 := cell_kept h4.cell (grownBy_putObj' _ W5.heap.size (.deferred none)) (fun r e => by cases e; exact ⟨_, hK', rfl⟩)
    have hc5 := cell_kept h5.cell (grownBy_putObj' _ W5.heap.size (.deferred none)) (fun r e => by cases e; exact ⟨_, hK', rfl⟩)
    refine ⟨by simp, .inl ⟨_, _, rfl, run_takeDeferred hK', ?_⟩⟩
    refine ⟨.tuple #[.slice none 0 0, .bool false], by simp [results, Try.f14, go_sem, hc4, hc5], .slice none 0 0, by rw [← HR.out, HNONE.out]; rfl, ?_, ?_⟩
    · rw [← HR.out, HNONE.out]
      exact hvn _
    · exact hBs.grown (grownBy_putObj' _ W5.heap.size (.deferred none)) hBs.size (fun j e => by cases e; have := HS5.out; omega)
  case hstop =>
    rintro c i W ⟨hB, h⟩ hK
    rcases h with ⟨rfl, v, d, e1, e2, e3, e4⟩ | ⟨rfl, e1, e3, e4⟩
    · obtain ⟨p2, c2, rfl⟩ := e2.cut
      have HSOME := Lib.hid e1
      clear e1
      gi_wp2
      unfold Exit.noGoto
      have hc4 := cell_kept e3.cell (grownBy_putObj' _ W5.heap.size (.deferred none)) (fun r e => by cases e; exact ⟨_, hK, rfl⟩)
      have hc5 := cell_kept e4.cell (grownBy_putObj' _ W5.heap.size (.deferred none)) (fun r e => by cases e; exact ⟨_, hK, rfl⟩)
      refine ⟨by simp, .inl ⟨_, _, rfl, run_takeDeferred hK, ?_⟩⟩
      refine ⟨.tuple #[.slice p2 d.length c2, .bool true], by simp [results, Try.f14, go_sem, hc4, hc5], .slice p2 d.length c2, by rw [← HR.out, HSOME.out]; rfl, ?_, ?_⟩
      · rw [← HR.out, HSOME.out]
        exact vx_put e2 hK rfl
      · exact hB.grown (grownBy_putObj' _ W5.heap.size (.deferred none)) hB.size (fun j e => by cases e; have := HS5.out; omega)
    · have q1 := e3.cell
      have q2 := e3.frozen
      have q3 := (e4.other (B' := w.heap.size + 1 + 1) (by omega) (.slice none 0 0)).cell
      have q4 := (e4.other (B' := w.heap.size + 1 + 1) (by omega) (.slice none 0 0)).frozen
      have Z4 := Lib.hid e3
      have Y4 := Lib.hid e4
      have HBW := Lib.hid hB
      have HNONE := Lib.hid e1
      clear e1 e3 e4 hB
      gi_wp2
      have hK' := ((KeepsOthers.setCell W ⟨w.heap.size + 1 + 1, 0, none⟩ (.slice none 0 0)).trans (KeepsOthers.setCell _ ⟨w.heap.size + 1 + 1 + 1, 0, none⟩ (.bool false))).same W5.heap.size _ hK rfl
      have h4 := (Z4.out.set (.slice none 0 0)).other (B' := w.heap.size + 1 + 1 + 1) (by omega) (.bool false)
      have h5 := (Y4.out.other (B' := w.heap.size + 1 + 1) (by omega) (.slice none 0 0)).set (.bool false)
      have hBs := (HBW.out.setCell (p := ⟨w.heap.size + 1 + 1, 0, none⟩) (by show w.heap.size ≤ w.heap.size + 1 + 1; omega) (.slice none 0 0)).setCell (p := ⟨w.heap.size + 1 + 1 + 1, 0, none⟩) (by show w.heap.size ≤ w.heap.size + 1 + 1 + 1; omega) (.bool false)
      have hvn : ∀ W : World, Vx W (.slice none 0 0) [] := fun W => Rx.nil W none 0
      unfold Exit.noGoto
      have hc4 := cell_kept h4.cell (grownBy_putObj' _ W5.heap.size (.deferred none)) (fun r e => by cases e; exact ⟨_, hK', rfl⟩)
      have hc5 := cell_kept h5.cell (grownBy_putObj' _ W5.heap.size (.deferred none)) (fun r e => by cases e; exact ⟨_, hK', rfl⟩)
      refine ⟨by simp, .inl ⟨_, _, rfl, run_takeDeferred hK', ?_⟩⟩
      refine ⟨.tuple #[.slice none 0 0, .bool false], by simp [results, Try.f14, go_sem, hc4, hc5], .slice none 0 0, by rw [← HR.out, HNONE.out]; rfl, ?_, ?_⟩
      · rw [← HR.out, HNONE.out]
        exact hvn _
      · exact hBs.grown (grownBy_putObj' _ W5.heap.size (.deferred none)) hBs.size (fun j e => by cases e; have := HS5.out; omega)
theorem encl_ok (N T H : Int) (vl vo vx : Value) (L : List Is) (O : List Int) (X : List (Int × Int)) (w : World) (hl : Ix w vl L) (ho : Px w vo O) (hx : Vx w vx X) (htv : tvB N L O = true) (hXN : (X.length : Int) = N) (hvx : ∀ p ∈ X, VI p.1 p.2) (ht1 : -1048576 ≤ T) (ht2 : T ≤ 1048576) (h0 : 0 ≤ H) (h1 : H ≤ 1000000) (r : Option (List (Int × Int))) (hr : encR (imgT L O T H X) X = r) :
    Calls Try.prog 14 #[.agg #[.int .i64 N, vl, vo], vx, .agg #[.int .i64 T, .int .i64 H]] w fun e w' => ∃ v, e = .returned (.tuple #[v, .bool r.isSome]) ∧ Vx w' v (r.getD []) ∧ Below w.heap.size w w' :=
  (callsIn_wide (n := 5)).1 (encl_in 5 (by decide) N T H vl vo vx L O X w hl ho hx htv hXN hvx ht1 ht2 h0 h1 r hr)
end Go.Proofs.Ytecmgiihacigaaa
