/-
  The law PicardConstant.
-/
import Derived.Test.YtecmgiihacigaaaVu
import Derived.Test.YtecmgiihacigaaaVq
import Derived.Test.YtecmgiihacigaaaSubMath
namespace Go.Proofs.Ytecmgiihacigaaa
open Go.ChangeShapes Go.WideShapes Go.ChangeAt Go.RowKit Go.Maps
set_option linter.unusedVariables false
set_option linter.unusedSimpArgs false
set_option maxRecDepth 100000
attribute [local irreducible] Calls
theorem setc_sz (w : World) (a : Addr) (v : Value) : (w.setCell a v).heap.size = w.heap.size := by
  unfold World.setCell
  split <;> simp
/-- Constants, as Small makes them. -/
def smP (a b : Int) : Int × Int := (min (a.tmod 16777216) (b.tmod 16777216), max (a.tmod 16777216) (b.tmod 16777216))
theorem smP_bd (a b : Int) : -16777216 ≤ (smP a b).1 ∧ (smP a b).1 ≤ (smP a b).2 ∧ (smP a b).2 ≤ 16777216 := by
  have h1 := Int.lt_tmod_of_pos a (show (0 : Int) < 16777216 by decide)
  have h2 := Int.tmod_lt_of_pos a (show (0 : Int) < 16777216 by decide)
  have h3 := Int.lt_tmod_of_pos b (show (0 : Int) < 16777216 by decide)
  have h4 := Int.tmod_lt_of_pos b (show (0 : Int) < 16777216 by decide)
  unfold smP
  dsimp only
  omega
theorem smP_ok (a b : Int) (w : World) (ha : -9223372036854775808 ≤ a ∧ a ≤ 9223372036854775807) (hb : -9223372036854775808 ≤ b ∧ b ≤ 9223372036854775807) : Calls Try.prog 28 #[.agg #[.int .i64 a, .int .i64 b]] w fun e w' => e = .returned (.agg #[.int .i64 (smP a b).1, .int .i64 (smP a b).2]) ∧ Below w.heap.size w w' :=
  r2small a b w ha.1 ha.2 hb.1 hb.2
theorem f64_bd {fs : List Int} (h : ∀ x ∈ fs, IntKind.has .i64 x) (k : Nat) : -9223372036854775808 ≤ fs.getD k 0 ∧ fs.getD k 0 ≤ 9223372036854775807 := by
  rw [List.getD_eq_getElem?_getD]
  cases e : fs[k]? with
  | none => exact ⟨by decide, by decide⟩
  | some x =>
    have := h x (List.mem_of_getElem? e)
    exact this
theorem f6_at {W : World} {b0 b1 b2 b3 b4 b5 : Int} {b : Nat} {t : TypeId} (h : W.heap[b]? = some (.cells #[.int .i64 b0, .int .i64 b1, .int .i64 b2, .int .i64 b3, .int .i64 b4, .int .i64 b5] t (0, 0))) {j : Nat} (hj : j < 6) : W.cell? ⟨b, j, none⟩ = some (.int .i64 ([b0, b1, b2, b3, b4, b5].getD j 0)) := by
  refine heapN_cellj h ?_
  match j, hj with
  | 0, _ => rfl
  | 1, _ => rfl
  | 2, _ => rfl
  | 3, _ => rfl
  | 4, _ => rfl
  | 5, _ => rfl
theorem i5_at {W : World} {X : Nat} (x : Is) (h : W.heap[X]? = some (.cells #[.int .i64 x.op, .int .i64 x.a, .int .i64 x.b, .int .i64 x.lo, .int .i64 x.hi] 62 (0, 0))) : ∀ j u, (encI x)[j]? = some u → W.cell? ((⟨X, 0, none⟩ : Addr).add j) = some u := by
  intro j u hj
  have hk : j < 5 := by have := (List.getElem?_eq_some_iff.1 hj).1; simpa [encI] using this
  unfold encI at hj
  match j, hk, hj with
  | 0, _, hj => cases hj; simp [Addr.add, World.cell?, h]
  | 1, _, hj => cases hj; simp [Addr.add, World.cell?, h]
  | 2, _, hj => cases hj; simp [Addr.add, World.cell?, h]
  | 3, _, hj => cases hj; simp [Addr.add, World.cell?, h]
  | 4, _, hj => cases hj; simp [Addr.add, World.cell?, h]
theorem new_one1 (w : World) (n : Int) : ∀ j u, (enc1 n)[j]? = some u → (w.alloc (.cells #[.int .i64 n] 3)).cell? ((⟨w.heap.size, 0, none⟩ : Addr).add j) = some u := new_one w (.int .i64 n) _
/-- The constants as instructions, and the outputs. -/
def cstI (fs : List Int) (i : Nat) : Is := ⟨1, 0, 0, (smP (fs.getD (i * 2) 0) (fs.getD (i * 2 + 1) 0)).1, (smP (fs.getD (i * 2) 0) (fs.getD (i * 2 + 1) 0)).2⟩
def cstL (fs : List Int) (n : Nat) : List Is := (List.range n).map (cstI fs)
def idxL (n : Nat) : List Int := (List.range n).map (fun i : Nat => (i : Int))
theorem cstL_snoc (fs : List Int) (n : Nat) : cstL fs (n + 1) = cstL fs n ++ [cstI fs n] := by
  unfold cstL
  rw [List.range_succ, List.map_append]
  rfl
theorem idxL_snoc (n : Nat) : idxL (n + 1) = idxL n ++ [(n : Int)] := by
  unfold idxL
  rw [List.range_succ, List.map_append]
  rfl
theorem cstL_len (fs : List Int) (n : Nat) : (cstL fs n).length = n := by simp [cstL]
theorem idxL_len (n : Nat) : (idxL n).length = n := by simp [idxL]
theorem own_nil (W : World) (B : Nat) (t : TypeId) (sz : Nat) : W.ownsRow B t sz (.slice none 0 0) 0 [] := ⟨by simp, .inl ⟨rfl, by simp⟩⟩
/-- The tape that grows: its box, its two rows. -/
structure CsI (w0 : World) (N : Nat) (v r : Value) (L : List Is) (out : List Int) (W : World) : Prop where
  bx : W.heap[w0.heap.size]? = some (.cells #[.int .i64 N, v, r] 25 (0, 0))
  row : W.ownsRow (w0.heap.size + 1) 62 5 v L.length (cr encI L)
  ints : W.ownsRow (w0.heap.size + 1) 3 1 r out.length (cr enc1 out)
  bel : Below w0.heap.size w0 W
  sz : w0.heap.size + 1 ≤ W.heap.size
theorem CsI.grow {w0 W W' : World} {N : Nat} {v r : Value} {L : List Is} {out : List Int} (h : CsI w0 N v r L out W) (hB : Below W.heap.size W W') : CsI w0 N v r L out W' :=
  ⟨(hB.block _ (Array.getElem?_eq_some_iff.1 h.bx).1).trans h.bx, own_keptN h.row hB, own_keptN h.ints hB, below_then h.bel hB, Nat.le_trans h.sz hB.size⟩
theorem CsI.alloc {w0 W : World} {N : Nat} {v r : Value} {L : List Is} {out : List Int} (h : CsI w0 N v r L out W) (o : Obj) : CsI w0 N v r L out (W.alloc o) := h.grow ((Below.refl _ _).alloc (Nat.le_refl _) _)
theorem CsI.push {w0 W W' : World} {N : Nat} {v r : Value} {L : List Is} {out : List Int} {x : Is} {p : Option Addr} {c : Nat} (h : CsI w0 N v r L out W) (ho : W'.ownsRow (w0.heap.size + 1) 62 5 (.slice p (L.length + 1) c) (L.length + 1) (cr encI L ++ encI x)) (hg : W.grownBy W' v.ownBlock) :
    W'.heap[w0.heap.size]? = some (.cells #[.int .i64 N, v, r] 25 (0, 0)) ∧ CsI w0 N (.slice p (L.length + 1) c) r (L ++ [x]) out (W'.setCell ⟨w0.heap.size, 1, none⟩ (.slice p (L.length + 1) c)) := by
  have hb := (hg.block _ (Array.getElem?_eq_some_iff.1 h.bx).1 (fun e => by have := (h.row.lt _ e.symm).1; omega)).trans h.bx
  have hi : W'.ownsRow (w0.heap.size + 1) 3 1 r out.length (cr enc1 out) := row_app (by decide) h.ints h.row hg
  refine ⟨hb, cellsT_setN (o := 1) (u := .slice p (L.length + 1) c) hb, ?_, own_setX hi (Nat.lt_succ_self _) _ _, (Below.grown h.bel hg h.bel.size (fun i e => by have := (h.row.lt i e).1; omega)).setCell (p := ⟨w0.heap.size, 1, none⟩) (Nat.le_refl _) _, ?_⟩
  · rw [cr_snoc, List.length_append, List.length_singleton]
    exact own_setX ho (Nat.lt_succ_self _) _ _
  · exact Nat.le_trans (Nat.le_trans h.sz hg.size) (grownBy_setN W' ⟨w0.heap.size, 1, none⟩ _).size
theorem CsI.push2 {w0 W W' : World} {N : Nat} {v r : Value} {L : List Is} {out : List Int} {x : Int} {p : Option Addr} {c : Nat} (h : CsI w0 N v r L out W) (ho : W'.ownsRow (w0.heap.size + 1) 3 1 (.slice p (out.length + 1) c) (out.length + 1) (cr enc1 out ++ enc1 x)) (hg : W.grownBy W' r.ownBlock) :
    W'.heap[w0.heap.size]? = some (.cells #[.int .i64 N, v, r] 25 (0, 0)) ∧ CsI w0 N v (.slice p (out.length + 1) c) L (out ++ [x]) (W'.setCell ⟨w0.heap.size, 2, none⟩ (.slice p (out.length + 1) c)) := by
  have hb := (hg.block _ (Array.getElem?_eq_some_iff.1 h.bx).1 (fun e => by have := (h.ints.lt _ e.symm).1; omega)).trans h.bx
  have hi : W'.ownsRow (w0.heap.size + 1) 62 5 v L.length (cr encI L) := row_app (by decide) h.row h.ints hg
  refine ⟨hb, cellsT_setN (o := 2) (u := .slice p (out.length + 1) c) hb, own_setX hi (Nat.lt_succ_self _) _ _, ?_, (Below.grown h.bel hg h.bel.size (fun i e => by have := (h.ints.lt i e).1; omega)).setCell (p := ⟨w0.heap.size, 2, none⟩) (Nat.le_refl _) _, ?_⟩
  · rw [cr_snoc, List.length_append, List.length_singleton]
    exact own_setX ho (Nat.lt_succ_self _) _ _
  · exact Nat.le_trans (Nat.le_trans h.sz hg.size) (grownBy_setN W' ⟨w0.heap.size, 2, none⟩ _).size
/-- The values of constants. -/
theorem evL_cst (X : List (Int × Int)) (t : Int × Int) (L : List Is) (h : ∀ x ∈ L, x.op = 1) : evL X t L = L.map (fun x => (x.lo, x.hi)) := by
  unfold evL
  suffices hs : ∀ (L : List Is) (acc : List (Int × Int)), (∀ x ∈ L, x.op = 1) → L.foldl (fun vals x => vals ++ [evI X t vals x]) acc = acc ++ L.map (fun x => (x.lo, x.hi)) by
    have := hs L [] h
    rwa [List.nil_append] at this
  intro L
  induction L with
  | nil => intro acc _; simp
  | cons x L ih =>
    intro acc hL
    have e : evI X t acc x = (x.lo, x.hi) := by unfold evI; rw [if_pos (hL x List.mem_cons_self)]
    rw [List.foldl_cons, e, ih _ (fun y hy => hL y (List.mem_cons_of_mem _ hy))]
    simp
def cstP (fs : List Int) (i : Nat) : Int × Int := smP (fs.getD (i * 2) 0) (fs.getD (i * 2 + 1) 0)
theorem cst_out (fs : List Int) (X : List (Int × Int)) (t : Int × Int) (n : Nat) : outV (evL X t (cstL fs n)) (idxL n) = (List.range n).map (cstP fs) := by
  rw [evL_cst X t _ (fun x hx => by unfold cstL at hx; rw [List.mem_map] at hx; obtain ⟨i, _, rfl⟩ := hx; rfl)]
  unfold outV idxL cstL
  rw [List.map_map, List.map_map]
  apply List.map_congr_left
  intro i hi
  have hi := List.mem_range.1 hi
  simp only [Function.comp, Int.toNat_natCast, List.getD_eq_getElem?_getD, List.getElem?_map, List.getElem?_range hi, Option.map_some, Option.getD_some]
  rfl
theorem cst_tv (fs : List Int) (n : Nat) (h1 : 1 ≤ n) (h2 : n ≤ 6) : tvB n (cstL fs n) (idxL n) = true := by
  refine tv_of (m := n) (by omega) (by omega) (by rw [cstL_len]; omega) rfl (idxL_len n) (fun k x hx => ?_) (fun y hy => ?_)
  · unfold cstL at hx
    rw [List.getElem?_map] at hx
    cases e : (List.range n)[k]? with
    | none => rw [e] at hx; cases hx
    | some i =>
      rw [e] at hx
      cases hx
      have hb := smP_bd (fs.getD (i * 2) 0) (fs.getD (i * 2 + 1) 0)
      have hv : VI (smP (fs.getD (i * 2) 0) (fs.getD (i * 2 + 1) 0)).1 (smP (fs.getD (i * 2) 0) (fs.getD (i * 2 + 1) 0)).2 := .inr ⟨by unfold Num; omega, by unfold Num; omega, hb.2.1⟩
      unfold vinB cstI
      rw [if_pos rfl, decide_eq_true hv]
      rfl
  · unfold idxL at hy
    rw [List.mem_map] at hy
    obtain ⟨i, hi, rfl⟩ := hy
    have hi := List.mem_range.1 hi
    rw [cstL_len]
    unfold ixB
    simp
    omega
/-- The image of a moderate interval by a moderate constant. -/
theorem cst_img {H xl xh c e : Int} (h0 : 1 ≤ H) (h1 : H ≤ 32768) (x1 : -2000000 < xl) (x2 : xl ≤ xh) (x3 : xh < 2000000) (c1 : -16777216 ≤ c) (c2 : c ≤ e) (c3 : e ≤ 16777216) :
    imgP H (xl, xh) (c, e) = (xl + dn (mn4 0 H c e) 65536, xh + up (mx4 0 H c e) 65536) ∧ -16000000 ≤ xl + dn (mn4 0 H c e) 65536 ∧ xh + up (mx4 0 H c e) 65536 ≤ 16000000 ∧ dn (mn4 0 H c e) 65536 ≤ 0 ∧ 0 ≤ up (mx4 0 H c e) 65536 := by
  have p1 : -549755813888 ≤ H * c := by
    rcases Int.le_total 0 c with h | h
    · have := Int.mul_nonneg (show 0 ≤ H by omega) h
      omega
    · have q : c * 32768 ≤ c * H := Int.mul_le_mul_of_nonpos_left h h1
      rw [Int.mul_comm c H] at q
      omega
  have p2 : H * e ≤ 549755813888 := by
    rcases Int.le_total 0 e with h | h
    · have q : H * e ≤ 32768 * e := Int.mul_le_mul_of_nonneg_right h1 h
      omega
    · have := Int.mul_nonneg (show 0 ≤ H by omega) (show 0 ≤ -e by omega)
      rw [Int.mul_neg] at this
      omega
  have p3 : H * c ≤ H * e := Int.mul_le_mul_of_nonneg_left c2 (by omega)
  have m1 : -549755813888 ≤ mn4 0 H c e ∧ mn4 0 H c e ≤ 0 := by unfold mn4; rw [Int.zero_mul, Int.zero_mul]; omega
  have m2 : 0 ≤ mx4 0 H c e ∧ mx4 0 H c e ≤ 549755813888 := by unfold mx4; rw [Int.zero_mul, Int.zero_mul]; omega
  have d1 := dn_mul (mn4 0 H c e) (show (0 : Int) < 65536 by decide)
  have d2 := up_mul (mx4 0 H c e) (show (0 : Int) < 65536 by decide)
  obtain ⟨D, eD⟩ : ∃ D, dn (mn4 0 H c e) 65536 = D := ⟨_, rfl⟩
  obtain ⟨U, eU⟩ : ∃ D, up (mx4 0 H c e) 65536 = D := ⟨_, rfl⟩
  rw [eD] at d1
  rw [eU] at d2
  have hne : ¬ (Ent 0 H ∨ Ent c e) := by unfold Ent; omega
  have n1 : Num D ∧ Num U := ⟨by unfold Num; omega, by unfold Num; omega⟩
  have hmul : mulLo 0 H c e = D ∧ mulHi 0 H c e = U := by
    unfold mulLo mulHi
    rw [if_neg hne, if_neg hne, eD, eU]
    exact ⟨if_pos n1, if_pos n1⟩
  have hne2 : ¬ (Ent xl xh ∨ Ent D U) := by unfold Ent; omega
  have n2 : Num (xl + D) ∧ Num (xh + U) := ⟨by unfold Num; omega, by unfold Num; omega⟩
  refine ⟨?_, ?_⟩
  · rw [imgP_eq]
    dsimp only
    rw [hmul.1, hmul.2, eD, eU]
    unfold addLo addHi
    rw [if_neg hne2, if_neg hne2]
    exact Prod.ext (if_pos n2) (if_pos n2)
  · rw [eD, eU]
    omega
/-- Where images don't depend on the box, the first candidate will do. -/
theorem encR_cst {img : List (Int × Int) → List (Int × Int)} {X P : List (Int × Int)} (hi : ∀ B, B.length = X.length → img B = P) (hl : P.length = X.length) (hs : SbL X P) (hb : ∀ p ∈ P, -16000000 ≤ p.1 ∧ p.1 ≤ p.2 ∧ p.2 ≤ 16000000) : encR img X = some P := by
  have hh : hulL X P = P := by
    apply List.ext_getElem?
    intro i
    unfold hulL
    rw [List.getElem?_map]
    cases e : P[i]? with
    | none =>
      have : (X.zip P)[i]? = none := by rw [List.getElem?_eq_none_iff] at e ⊢; rw [List.length_zip]; omega
      rw [this]
      rfl
    | some q =>
      obtain ⟨x, hx⟩ : ∃ x, X[i]? = some x := ⟨_, List.getElem?_eq_getElem (by rw [← hl]; exact (List.getElem?_eq_some_iff.1 e).1)⟩
      have hz : (X.zip P)[i]? = some (x, q) := List.getElem?_zip_eq_some.2 ⟨hx, e⟩
      rw [hz]
      obtain ⟨_, _, h1, h2⟩ := hs.2 i x q hx e
      simp only [Option.map_some, Option.some.injEq]
      unfold hullI
      dsimp only
      exact Prod.ext (by dsimp only; omega) (by dsimp only; omega)
  have hP0 : img X = P := hi X rfl
  have hc : (infL P).length = X.length := by rw [inf_len, hl]
  have hP1 : img (infL P) = P := hi _ hc
  have key : ∀ p ∈ P, infP p = (p.1 - ((p.2 - p.1) / 16 + 1), p.2 + ((p.2 - p.1) / 16 + 1)) := fun p hp => by
    have := hb p hp
    unfold infP
    have hn : Num (p.1 - ((p.2 - p.1) / 16 + 1)) ∧ Num (p.2 + ((p.2 - p.1) / 16 + 1)) := ⟨by unfold Num; omega, by unfold Num; omega⟩
    exact Prod.ext (if_pos hn) (if_pos hn)
  have b1 : bndB P = true := by
    unfold bndB
    rw [Bool.not_eq_true', List.any_eq_false]
    intro p hp he
    have h := (entB_iff p).1 he
    have := hb p hp
    unfold Ent at h
    omega
  have b2 : bndB (infL P) = true := by
    unfold bndB
    rw [Bool.not_eq_true', List.any_eq_false]
    intro q hq he
    unfold infL at hq
    rw [List.mem_map] at hq
    obtain ⟨p, hp, rfl⟩ := hq
    rw [key p hp] at he
    have h := (entB_iff _).1 he
    have := hb p hp
    unfold Ent at h
    dsimp only at h
    omega
  have b3 : subB P (infL P) = true := by
    unfold subB
    rw [List.all_eq_true]
    intro z hz
    obtain ⟨i, hz⟩ := List.getElem?_of_mem hz
    rw [List.getElem?_zip_eq_some] at hz
    obtain ⟨ha, hq⟩ := hz
    unfold infL at hq
    rw [List.getElem?_map, ha] at hq
    have hq := Option.some.inj hq
    have hm := List.mem_of_getElem? ha
    rw [key _ hm] at hq
    have := hb _ hm
    unfold sub1
    rw [← hq]
    dsimp only
    rw [decide_eq_true (by omega), decide_eq_true (by omega)]
    rfl
  unfold encR
  rw [hP0, hh]
  have hs : encG img 8 P = if (bndB (infL P) && bndB (img (infL P))) = false then none else if subB (img (infL P)) (infL P) = true then some (img (infL P)) else encG img 7 (hulL (infL P) (img (infL P))) := rfl
  rw [hs, hP1, b1, b2, b3]
  rfl
/-- A constant's step, number by number. -/
theorem cst_at {H xl xh c e : Int} (h0 : 1 ≤ H) (h1 : H ≤ 32768) (x1 : -2000000 < xl) (x2 : xl ≤ xh) (x3 : xh < 2000000) (c1 : -16777216 ≤ c) (c2 : c ≤ e) (c3 : e ≤ 16777216) :
    ∃ D U m1 m2, imgP H (xl, xh) (c, e) = (xl + D, xh + U) ∧ D ≤ 0 ∧ 0 ≤ U ∧ -16000000 ≤ xl + D ∧ xh + U ≤ 16000000 ∧ mrLo c e H 65536 = m1 ∧ mrHi c e H 65536 = m2 ∧ D ≤ m1 ∧ m1 ≤ m2 ∧ m2 ≤ U ∧ addLo xl xh m1 m2 = xl + m1 ∧ addHi xl xh m1 m2 = xh + m2 := by
  obtain ⟨g1, g2, g3, g4, g5⟩ := cst_img h0 h1 x1 x2 x3 c1 c2 c3
  have hle := mr_le (a := c) (b := e) (n := H) (d := 65536) (by decide)
  have k1 : dn (mn4 0 H c e) 65536 ≤ mr1 c e H 65536 := dn_mono (by decide) (by unfold mn4; rw [Int.mul_comm c H, Int.mul_comm e H]; omega)
  have k2 : mr2 c e H 65536 ≤ up (mx4 0 H c e) 65536 := up_mono (by decide) (by unfold mx4; rw [Int.mul_comm c H, Int.mul_comm e H]; omega)
  obtain ⟨D, eD⟩ : ∃ D, dn (mn4 0 H c e) 65536 = D := ⟨_, rfl⟩
  obtain ⟨U, eU⟩ : ∃ D, up (mx4 0 H c e) 65536 = D := ⟨_, rfl⟩
  obtain ⟨m1, e1⟩ : ∃ D, mr1 c e H 65536 = D := ⟨_, rfl⟩
  obtain ⟨m2, e2⟩ : ∃ D, mr2 c e H 65536 = D := ⟨_, rfl⟩
  rw [eD, eU] at g1
  rw [eD] at g2 g4 k1
  rw [eU] at g3 g5 k2
  rw [e1] at hle k1
  rw [e2] at hle k2
  have hne : ¬ Ent c e := by unfold Ent; omega
  have hn : Num m1 ∧ Num m2 := ⟨by unfold Num; omega, by unfold Num; omega⟩
  have hne2 : ¬ (Ent xl xh ∨ Ent m1 m2) := by unfold Ent; omega
  have hn2 : Num (xl + m1) ∧ Num (xh + m2) := ⟨by unfold Num; omega, by unfold Num; omega⟩
  refine ⟨D, U, m1, m2, g1, g4, g5, g2, g3, ?_, ?_, k1, hle, k2, ?_, ?_⟩
  · unfold mrLo
    rw [if_neg hne, e1, e2]
    exact if_pos hn
  · unfold mrHi
    rw [if_neg hne, e1, e2]
    exact if_pos hn
  · unfold addLo
    rw [if_neg hne2]
    exact if_pos hn2
  · unfold addHi
    rw [if_neg hne2]
    exact if_pos hn2
theorem cst_row (fs : List Int) {H : Int} {X : List (Int × Int)} {n : Nat} (h0 : 1 ≤ H) (h1 : H ≤ 32768) (hX : ∀ p ∈ X, -1048576 < p.1 ∧ p.1 ≤ p.2 ∧ p.2 < 1114112) (hl : X.length = n) :
    (imgL H X ((List.range n).map (cstP fs))).length = n ∧ SbL X (imgL H X ((List.range n).map (cstP fs))) ∧ (∀ p ∈ imgL H X ((List.range n).map (cstP fs)), -16000000 ≤ p.1 ∧ p.1 ≤ p.2 ∧ p.2 ≤ 16000000) ∧
    ∀ (i : Nat) (x : Int × Int), X[i]? = some x → (imgL H X ((List.range n).map (cstP fs)))[i]? = some (imgP H x (cstP fs i)) := by
  have hat : ∀ (i : Nat) (x : Int × Int), X[i]? = some x → (imgL H X ((List.range n).map (cstP fs)))[i]? = some (imgP H x (cstP fs i)) := fun i x hx => by
    have hi : i < n := by rw [← hl]; exact (List.getElem?_eq_some_iff.1 hx).1
    unfold imgL
    rw [List.getElem?_zipWith, hx, List.getElem?_map, List.getElem?_range hi]
    rfl
  have hlen : (imgL H X ((List.range n).map (cstP fs))).length = n := by
    unfold imgL
    rw [List.length_zipWith, List.length_map, List.length_range, hl]
    exact Nat.min_self n
  have hp : ∀ (i : Nat) (x q : Int × Int), X[i]? = some x → (imgL H X ((List.range n).map (cstP fs)))[i]? = some q → q.1 ≤ x.1 ∧ x.2 ≤ q.2 ∧ -16000000 ≤ q.1 ∧ q.2 ≤ 16000000 := fun i x q hx hq => by
    rw [hat i x hx] at hq
    obtain ⟨b1, b2, b3⟩ := hX x (List.mem_of_getElem? hx)
    obtain ⟨s1, s2, s3⟩ := smP_bd (fs.getD (i * 2) 0) (fs.getD (i * 2 + 1) 0)
    obtain ⟨D, U, m1, m2, g, d1, d2, d3, d4, _⟩ := cst_at (H := H) (xl := x.1) (xh := x.2) h0 h1 (by omega) b2 (by omega) s1 s2 s3
    have : imgP H x (cstP fs i) = (x.1 + D, x.2 + U) := g
    rw [this] at hq
    cases hq
    dsimp only
    omega
  have hxi : ∀ (i : Nat) (q : Int × Int), (imgL H X ((List.range n).map (cstP fs)))[i]? = some q → ∃ x, X[i]? = some x := fun i q hq => ⟨_, List.getElem?_eq_getElem (by have := (List.getElem?_eq_some_iff.1 hq).1; omega)⟩
  refine ⟨hlen, ⟨by rw [hlen, hl], fun i x q hx hq => ?_⟩, fun q hq => ?_, hat⟩
  · obtain ⟨b1, b2, b3⟩ := hX x (List.mem_of_getElem? hx)
    obtain ⟨k1, k2, k3, k4⟩ := hp i x q hx hq
    exact ⟨.inr ⟨by unfold Num; omega, by unfold Num; omega, b2⟩, .inr ⟨by unfold Num; omega, by unfold Num; omega, by omega⟩, k1, k2⟩
  · obtain ⟨i, hi⟩ := List.getElem?_of_mem hq
    obtain ⟨x, hx⟩ := hxi i q hi
    obtain ⟨b1, b2, b3⟩ := hX x (List.mem_of_getElem? hx)
    obtain ⟨k1, k2, k3, k4⟩ := hp i x q hx hi
    omega

set_option maxHeartbeats 64000000 in
theorem pcst (w : World) (vL vO vX : Value) (n0 t ln : Int) (Lr : List Is) (outr : List Int) (Xr : List (Int × Int)) (hL : Ix w vL Lr ∧ ∀ x ∈ Lr, IW x) (hO : Px w vO outr ∧ ∀ x ∈ outr, W64 x) (hX : Vx w vX Xr ∧ ∀ q ∈ Xr, W64 q.1 ∧ W64 q.2) (hn : W64 n0) (ht : W64 t) (hln : W64 ln) (f0 f1 f2 f3 f4 f5 : Int) (hf : ∀ x ∈ [f0, f1, f2, f3, f4, f5], IntKind.has .i64 x) :
    Calls Try.prog 9 #[.agg #[.int .i64 n0, vL, vO, vX, .int .i64 t, .int .i64 ln], .agg #[.int .i64 f0, .int .i64 f1, .int .i64 f2, .int .i64 f3, .int .i64 f4, .int .i64 f5]] w fun e w' => e = .returned (.bool true) ∧ Below w.heap.size w w' := by
  obtain ⟨pl, cl, rfl⟩ := hL.1.cut
  obtain ⟨po, co, rfl⟩ := hO.1.cut
  obtain ⟨px, cx, rfl⟩ := hX.1.cut
  have HF := Lib.hid hf
  clear hf
  have hE : Below w.heap.size w ((w.alloc (.cells #[.int .i64 n0, .slice pl Lr.length cl, .slice po outr.length co, .slice px Xr.length cx, .int .i64 t, .int .i64 ln] 28)).alloc (.cells #[.int .i64 f0, .int .i64 f1, .int .i64 f2, .int .i64 f3, .int .i64 f4, .int .i64 f5] 59)) := allocs_below [.cells #[.int .i64 n0, .slice pl Lr.length cl, .slice po outr.length co, .slice px Xr.length cx, .int .i64 t, .int .i64 ln] 28, .cells #[.int .i64 f0, .int .i64 f1, .int .i64 f2, .int .i64 f3, .int .i64 f4, .int .i64 f5] 59] w
  have HQ := Lib.hid (show Blk ((w.alloc (.cells #[.int .i64 n0, .slice pl Lr.length cl, .slice po outr.length co, .slice px Xr.length cx, .int .i64 t, .int .i64 ln] 28)).alloc (.cells #[.int .i64 f0, .int .i64 f1, .int .i64 f2, .int .i64 f3, .int .i64 f4, .int .i64 f5] 59)) (w.heap.size) (.cells #[.int .i64 n0, .slice pl Lr.length cl, .slice po outr.length co, .slice px Xr.length cx, .int .i64 t, .int .i64 ln] 28) from allocs_at [.cells #[.int .i64 n0, .slice pl Lr.length cl, .slice po outr.length co, .slice px Xr.length cx, .int .i64 t, .int .i64 ln] 28, .cells #[.int .i64 f0, .int .i64 f1, .int .i64 f2, .int .i64 f3, .int .i64 f4, .int .i64 f5] 59] w 0 _ rfl)
  have HB1 := Lib.hid (show Blk ((w.alloc (.cells #[.int .i64 n0, .slice pl Lr.length cl, .slice po outr.length co, .slice px Xr.length cx, .int .i64 t, .int .i64 ln] 28)).alloc (.cells #[.int .i64 f0, .int .i64 f1, .int .i64 f2, .int .i64 f3, .int .i64 f4, .int .i64 f5] 59)) (w.heap.size + 1) (.cells #[.int .i64 f0, .int .i64 f1, .int .i64 f2, .int .i64 f3, .int .i64 f4, .int .i64 f5] 59) from allocs_at [.cells #[.int .i64 n0, .slice pl Lr.length cl, .slice po outr.length co, .slice px Xr.length cx, .int .i64 t, .int .i64 ln] 28, .cells #[.int .i64 f0, .int .i64 f1, .int .i64 f2, .int .i64 f3, .int .i64 f4, .int .i64 f5] 59] w 1 _ rfl)
  have HL := Lib.hid (hL.1.grow hE)
  have HO := Lib.hid (hO.1.grow hE)
  have HXV := Lib.hid (hX.1.grow hE)
  have HW := Lib.hid hE
  clear hE hL hO hX hn ht hln
  go_enter Try.func9, Try.ntmps9
  go_wp2_with (fail)
  refine (sanity11 _).mono ?_
  rintro e w1 ⟨rfl, hB⟩
  have HQ := Lib.hid (HQ.out.grow hB)
  have HB1 := Lib.hid (HB1.out.grow hB)
  have HL := Lib.hid (HL.out.grow hB)
  have HO := Lib.hid (HO.out.grow hB)
  have HXV := Lib.hid (HXV.out.grow hB)
  have HW := Lib.hid (below_then HW.out hB)
  clear hB
  have q0 := heapN_cellj HQ.out (k := 0) rfl
  have q1 := heapN_cellj HQ.out (k := 1) rfl
  have q2 := heapN_cellj HQ.out (k := 2) rfl
  have q3 := heapN_cellj HQ.out (k := 3) rfl
  have q4 := heapN_cellj HQ.out (k := 4) rfl
  have q5 := heapN_cellj HQ.out (k := 5) rfl
  go_wp2_with (fail)
  refine (made_ok n0 t ln _ _ _ Lr outr Xr _ HL.out HO.out HXV.out).mono ?_
  rintro e w2 ⟨N, T, O, pu, pr, pb, cu, cr', cb, rfl, hu, hr, hol, hx, htv, hN3, hT20, hB⟩
  clear q0 q1 q2 q3 q4 q5 HL HO HXV
  have htm := stpT_bd t
  have hhm := stpH_bd ln
  obtain ⟨tm, etm⟩ : ∃ m, stpT t = m := ⟨_, rfl⟩
  obtain ⟨hm, ehm⟩ : ∃ m, stpH ln = m := ⟨_, rfl⟩
  rw [etm] at htm
  rw [ehm] at hhm
  rw [etm, ehm]
  have HBD := Lib.hid (bx_bd Xr N)
  have hbl := boxI_len Xr N 65536
  obtain ⟨X, hX⟩ : ∃ X, boxI Xr N 65536 = X := ⟨_, rfl⟩
  rw [hX] at hx hbl HBD
  obtain ⟨hn1, hn6, h400, hon, hvl, hout⟩ := tv_cases htv
  have HXL := Lib.hid hbl
  have HVX := Lib.hid (bd_vi (by decide) (by decide) HBD.out)
  have HTV := Lib.hid htv
  have HUX := Lib.hid (Rx.own encI_len hu (by unfold maxLen; omega))
  have HX := Lib.hid hx
  have HR := Lib.hid hr
  have HOW := Lib.hid hu
  have hE : Below w2.heap.size w2 ((w2.alloc (.cells #[.int .i64 N, .slice pu T.length cu, .slice pr N cr'] 25)).alloc (.cells #[.int .i64 tm, .int .i64 hm] 33)) := allocs_below [.cells #[.int .i64 N, .slice pu T.length cu, .slice pr N cr'] 25, .cells #[.int .i64 tm, .int .i64 hm] 33] w2
  have hB2 := hB.trans (hE.mono hB.size)
  have HC := Lib.hid (show Blk ((w2.alloc (.cells #[.int .i64 N, .slice pu T.length cu, .slice pr N cr'] 25)).alloc (.cells #[.int .i64 tm, .int .i64 hm] 33)) w2.heap.size (.cells #[.int .i64 N, .slice pu T.length cu, .slice pr N cr'] 25) from allocs_at [.cells #[.int .i64 N, .slice pu T.length cu, .slice pr N cr'] 25, .cells #[.int .i64 tm, .int .i64 hm] 33] w2 0 _ rfl)
  have HS := Lib.hid (show Blk ((w2.alloc (.cells #[.int .i64 N, .slice pu T.length cu, .slice pr N cr'] 25)).alloc (.cells #[.int .i64 tm, .int .i64 hm] 33)) (w2.heap.size + 1) (.cells #[.int .i64 tm, .int .i64 hm] 33) from allocs_at [.cells #[.int .i64 N, .slice pu T.length cu, .slice pr N cr'] 25, .cells #[.int .i64 tm, .int .i64 hm] 33] w2 1 _ rfl)
  have HUX := Lib.hid (HUX.out.grow hE)
  have HX := Lib.hid (HX.out.grow hE)
  have HR := Lib.hid (HR.out.grow hE)
  have HOW := Lib.hid (own_keptN HOW.out hE)
  have HQ := Lib.hid (HQ.out.grow hB2)
  have HB1 := Lib.hid (HB1.out.grow hB2)
  have HW := Lib.hid (below_then HW.out hB2)
  clear hB hB2 hE hu hr hx htv hX hbl etm ehm h400 hon hvl hout hn6
  go_wp2_with (fail)
  generalize hWc : World.alloc (World.alloc w2 _) _ = W5 at *
  have hsz5 : W5.heap.size = w2.heap.size + 1 + 1 := by rw [← hWc, alloc_sz, alloc_sz]
  clear hWc
  rw [← hsz5]
  clear hsz5
  clear HQ HOW HC HUX HR
  have hN1 : 1 ≤ N := by omega
  have hXN : (X.length : Int) = N := by rw [HXL.out]
  have hB5 : Below W5.heap.size W5 (W5.alloc (.cells #[.int .i64 N, .slice none 0 0, .slice none 0 0] 25)) := (Below.refl _ _).alloc (Nat.le_refl _) _
  have HI0 := Lib.hid (show CsI W5 N (.slice none 0 0) (.slice none 0 0) (cstL [f0, f1, f2, f3, f4, f5] 0) (idxL 0) (W5.alloc (.cells #[.int .i64 N, .slice none 0 0, .slice none 0 0] 25)) from ⟨World.alloc_heap_new W5 _, own_nil _ _ _ _, own_nil _ _ _ _, hB5, by rw [alloc_sz]; omega⟩)
  obtain ⟨i0, hi0, hz0, hz1, hz2⟩ := info_parts info_is
  obtain ⟨i1, hi1, hy0, hy1, hy2⟩ := info_parts info_int
  clear hB5
  have c0 := heapN_cellj HI0.out.bx (k := 0) rfl
  go_wp2_with (fail)
  clear c0
  go_loopw [10] (fun i wr => ∃ (k : Nat) (v r : Value), i = .int .i64 k ∧ k ≤ N ∧ Hid (CsI W5 N v r (cstL [f0, f1, f2, f3, f4, f5] k) (idxL k) wr)) (fun i _ => N - (intOf i).toNat)
  case atStart => exact ⟨0, _, _, rfl, Nat.zero_le _, HI0⟩
  case round =>
    clear HI0
    obtain ⟨k, v, r, rfl, hk, HI⟩ := hrel
    have c0 := heapN_cellj HI.out.bx (k := 0) rfl
    obtain ⟨pv, cv, rfl⟩ := own_slice HI.out.row
    obtain ⟨pr, cr', rfl⟩ := own_slice HI.out.ints
    rw [cstL_len] at HI c0
    rw [idxL_len] at HI c0
    by_cases hlt : k < N
    · have i2 : (k : Int) < N := by omega
      have i3 : (k : Int) < 3 := by omega
      obtain ⟨y0, y1⟩ := (show wr.cell? ⟨w.heap.size + 1, k * 2, none⟩ = some (.int .i64 ([f0, f1, f2, f3, f4, f5].getD (k * 2) 0)) ∧ wr.cell? ⟨w.heap.size + 1, k * 2 + 1, none⟩ = some (.int .i64 ([f0, f1, f2, f3, f4, f5].getD (k * 2 + 1) 0)) from ⟨f6_at (HB1.out.grow HI.out.bel) (by omega), f6_at (HB1.out.grow HI.out.bel) (by omega)⟩)
      have g0 := fun g : Grown wr => f6_at ((HB1.out.grow HI.out.bel).grow g.h) (j := k * 2) (by omega)
      have g1 := fun g : Grown wr => f6_at ((HB1.out.grow HI.out.bel).grow g.h) (j := k * 2 + 1) (by omega)
      have h1 := f64_bd HF.out (k * 2)
      have h2 := f64_bd HF.out (k * 2 + 1)
      have hsn := cstL_snoc [f0, f1, f2, f3, f4, f5] k
      have hsi := idxL_snoc k
      unfold cstI at hsn
      obtain ⟨a, ea⟩ : ∃ a, [f0, f1, f2, f3, f4, f5].getD (k * 2) 0 = a := ⟨_, rfl⟩
      obtain ⟨b, eb⟩ : ∃ a, [f0, f1, f2, f3, f4, f5].getD (k * 2 + 1) 0 = a := ⟨_, rfl⟩
      rw [ea] at g0 h1 hsn
      rw [eb] at g1 h2 hsn
      have KS := Lib.hid (fun w => smP_ok a b w h1 h2)
      obtain ⟨⟨s1, s2⟩, es⟩ : ∃ s, smP a b = s := ⟨_, rfl⟩
      rw [es] at KS hsn
      dsimp only at KS hsn
      have HSN := Lib.hid hsn
      have HSI := Lib.hid hsi
      have b1 := fun g : Grown wr => heapN_cellj ((g.h.block _ (Array.getElem?_eq_some_iff.1 HI.out.bx).1).trans HI.out.bx) (k := 1) rfl
      clear ea eb es h1 h2 hsn hsi y0 y1
      go_wp2_with (fail)
      refine region_pred_n 8 (lk [(31, fun z_ _ => z_ = .pointer (some ⟨W5.heap.size, 1, none⟩)), (32, fun z_ _ => z_ = .slice pv k cv), (33, fun z_ _ => z_ = .int .i64 (k : Int)), (34, fun z_ _ => z_ = .pointer (some ⟨w.heap.size + 1, k * 2, none⟩)), (35, fun z_ _ => z_ = .agg #[.int .i64 a, .int .i64 b]), (36, fun z_ _ => z_ = .agg #[.int .i64 s1, .int .i64 s2]), (37, fun z_ _ => z_ = .agg #[.int .i64 1, .int .i64 0, .int .i64 0, .int .i64 s1, .int .i64 s2]), (38, fun z_ w' => ∃ X_, z_ = .slice (some ⟨X_, 0, none⟩) 1 1 ∧ wr.heap.size ≤ X_ ∧ w'.heap[X_]? = some (.cells #[.int .i64 1, .int .i64 0, .int .i64 0, .int .i64 s1, .int .i64 s2] 62 (0, 0)))]) (by kernel_rfl) (by kernel_rfl) (lk_steady _ ⟨steady_eq _, steady_eq _, steady_eq _, steady_eq _, steady_eq _, steady_eq _, steady_eq _, fun u w1 w2 hb ⟨X, e, h1, h2⟩ => ⟨X, e, h1, (hb.block X (Array.getElem?_eq_some_iff.1 h2).1).trans h2⟩, trivial⟩) ?_ ?_
      · refine ⟨?_, ?_, ?_, ?_, ?_, ?_, ?_, ?_, trivial⟩
        · refine ob_plain [9] rfl rfl fun aa g h => ?_
          have yy0 := seen_out (v := .pointer (some ⟨W5.heap.size, 0, none⟩)) rfl rfl h.1
          have ee0 := getD_of yy0
          exact tupon_value (v := .pointer (some ⟨W5.heap.size, 1, none⟩)) (by simp [go_sem, ee0, yy0]) (Below.refl _ _) rfl
        · refine ob_plain [31] rfl rfl fun aa g h => ?_
          obtain ⟨_, yy0, rfl⟩ := seen_in rfl h.1
          have ee0 := getD_of yy0
          exact tupon_value (v := .slice pv k cv) (by simp [go_sem, ee0, yy0, b1 g]) (Below.refl _ _) rfl
        · refine ob_plain [10] rfl rfl fun aa g h => ?_
          have yy0 := seen_out (v := .int .i64 (k : Int)) rfl rfl h.1
          have ee0 := getD_of yy0
          exact tupon_value (v := .int .i64 (k : Int)) (by simp [go_sem, ee0, yy0]) (Below.refl _ _) rfl
        · refine ob_plain [3, 33] rfl rfl fun aa g h => ?_
          have yy0 := seen_out (v := .pointer (some ⟨w.heap.size + 1, 0, none⟩)) rfl rfl h.1
          have ee0 := getD_of yy0
          obtain ⟨_, yy1, rfl⟩ := seen_in rfl h.2.1
          have ee1 := getD_of yy1
          exact tupon_value (v := .pointer (some ⟨w.heap.size + 1, k * 2, none⟩)) (by simp [go_sem, ee0, yy0, ee1, yy1, i3]) (Below.refl _ _) rfl
        · refine ob_plain [34] rfl rfl fun aa g h => ?_
          obtain ⟨_, yy0, rfl⟩ := seen_in rfl h.1
          have ee0 := getD_of yy0
          exact tupon_value (v := .agg #[.int .i64 a, .int .i64 b]) (by simp [go_sem, ee0, yy0, g0 g, g1 g]) (Below.refl _ _) rfl
        · refine ob_plain [35] rfl rfl fun aa g h => ?_
          obtain ⟨_, yy0, rfl⟩ := seen_in rfl h.1
          have ee0 := getD_of yy0
          refine tupon_enter (f := 28) (args := #[.agg #[.int .i64 a, .int .i64 b]]) (by simp [go_sem, ee0, yy0]) rfl ?_
          exact (KS.out g.w).mono fun e w' ⟨he, hB⟩ => ⟨_, he, hB, rfl⟩
        · refine ob_plain [36] rfl rfl fun aa g h => ?_
          obtain ⟨_, yy0, rfl⟩ := seen_in rfl h.1
          have ee0 := getD_of yy0
          exact tupon_value (v := .agg #[.int .i64 1, .int .i64 0, .int .i64 0, .int .i64 s1, .int .i64 s2]) (by simp [go_sem, ee0, yy0]) (Below.refl _ _) rfl
        · refine ob_plain [37] rfl rfl fun aa g h => ?_
          obtain ⟨_, yy0, rfl⟩ := seen_in rfl h.1
          have ee0 := getD_of yy0
          exact tupon_value (v := .slice (some ⟨g.w.heap.size, 0, none⟩) 1 1) (w1 := g.w.alloc (.cells #[.int .i64 1, .int .i64 0, .int .i64 0, .int .i64 s1, .int .i64 s2] 62)) (by simp [go_sem, ee0, yy0]) ((Below.refl _ _).alloc (Nat.le_refl _) _) ⟨_, rfl, g.h.size, World.alloc_heap_new _ _⟩
      rintro w9 hB9 _ rfl _ rfl _ rfl _ rfl _ rfl _ rfl _ rfl _ ⟨X38, rfl, hX38, hI38⟩
      simp only [Act.put, List.setIfInBounds_toArray, List.set_cons_succ, List.set_cons_zero, finP, List.drop_succ_cons, List.drop_zero, List.take_zero, List.filterMap_nil]
      have HI9 := Lib.hid (HI.out.grow hB9)
      have HNB := Lib.hid (i5_at ⟨1, 0, 0, s1, s2⟩ hI38)
      have hs9 := HI9.out.sz
      clear hB9 hI38 hX38 g0 g1 b1 KS HI c0
      go_wp2_with (at_builtin; refine wpList_append_own _ rfl (.tmp 32) (.tmp 38) 22 rfl (W5.heap.size + 1) 62 i0 (.agg #[.int .i64 0, .int .i64 0, .int .i64 0, .int .i64 0, .int .i64 0]) 5 40 Try.underlying22 hi0 hz0 hz1 hz2 rfl (by decide) (.slice pv k cv) k _ rfl (by have h := HI9.out.row; rw [cstL_len] at h; exact h) ⟨X38, 0, none⟩ 1 1 (encI ⟨1, 0, 0, s1, s2⟩) rfl rfl HNB.out (one_i _) (by unfold maxLen; omega) (by omega) hs9 ?_)
      intro v' w8 hown' hgrow _
      obtain ⟨p8, c8, rfl⟩ := own_slice hown'
      obtain ⟨hb8, hc8⟩ := HI9.out.push (x := ⟨1, 0, 0, s1, s2⟩) (by rw [cstL_len]; exact hown') hgrow
      rw [← HSN.out] at hc8
      simp only [cstL_len] at hb8 hc8
      have q1 := heapN_cellj hb8 (k := 1) rfl
      have q2 := heapN_cellj hb8 (k := 2) rfl
      have z1 : w8.frozen? ⟨W5.heap.size, 1, none⟩ = false := by simp [World.frozen?, hb8]
      have HI8 := Lib.hid hc8
      clear hown' hgrow hb8 hc8 HI9 HNB hs9
      have hs8 := HI8.out.sz
      have HN2 := Lib.hid (show ∀ j u, (enc1 (k : Int))[j]? = some u → ((w8.setCell ⟨W5.heap.size, 1, none⟩ (.slice p8 (k + 1) c8)).alloc (.cells #[.int .i64 (k : Int)] 3)).cell? ((⟨w8.heap.size, 0, none⟩ : Addr).add j) = some u from by
        have h := new_one1 (w8.setCell ⟨W5.heap.size, 1, none⟩ (.slice p8 (k + 1) c8)) (k : Int)
        rwa [setc_sz] at h)
      have hx8 := HI8.out.ints
      rw [idxL_len] at hx8
      have HX8 := Lib.hid hx8
      clear hx8
      go_wp2_with (at_builtin; refine wpList_append_own _ rfl (.tmp 42) (.tmp 44) 23 rfl (W5.heap.size + 1) 3 i1 (.int .i64 0) 1 8 Try.underlying23 hi1 hy0 hy1 hy2 rfl (by decide) (.slice pr k cr') k _ rfl (HX8.out.alloc _) ⟨w8.heap.size, 0, none⟩ 1 1 (enc1 (k : Int)) rfl rfl HN2.out (one_i64' _) (by unfold maxLen; omega) (by omega) (by rw [alloc_sz]; omega) ?_)
      intro v' w11 hown' hgrow _
      obtain ⟨p9, c9, rfl⟩ := own_slice hown'
      obtain ⟨hb8, hc8⟩ := (HI8.out.alloc (.cells #[.int .i64 (k : Int)] 3)).push2 (x := (k : Int)) (by rw [idxL_len]; exact hown') hgrow
      rw [← HSI.out] at hc8
      simp only [idxL_len] at hb8 hc8
      have r1 := heapN_cellj hb8 (k := 2) rfl
      have z1 : w11.frozen? ⟨W5.heap.size, 2, none⟩ = false := by simp [World.frozen?, hb8]
      have HI9 := Lib.hid hc8
      clear hown' hgrow hb8 hc8 HI8 HN2 hs8 HX8
      go_wp2_with (fail)
      go_roundw
      case rel => exact ⟨k + 1, _, _, by go_num, by omega, HI9⟩
      case measure => simp [intOf]; omega
    · obtain rfl : N = k := by omega
      have i2 : ¬ (N : Int) < N := by omega
      have hN6 : N ≤ 6 := by omega
      have htv2 := cst_tv [f0, f1, f2, f3, f4, f5] N hN1 hN6
      have hx := HI.out.row
      have hi := HI.out.ints
      rw [cstL_len] at hx
      rw [idxL_len] at hi
      have HUX := Lib.hid (show Ix wr (.slice pv N cv) (cstL [f0, f1, f2, f3, f4, f5] N) from by
        have h := Rx.own encI_len (l := cstL [f0, f1, f2, f3, f4, f5] N) (by rw [cstL_len]; exact hx) (by rw [cstL_len]; unfold maxLen; omega)
        exact h)
      have HR := Lib.hid (show Px wr (.slice pr N cr') (idxL N) from by
        have h := Rx.own (enc := enc1) (fun _ => rfl) (l := idxL N) (by rw [idxL_len]; exact hi) (by rw [idxL_len]; unfold maxLen; omega)
        exact h)
      have HC := Lib.hid (show Blk wr W5.heap.size (.cells #[.int .i64 N, .slice pv N cv, .slice pr N cr'] 25) from HI.out.bx)
      have HS := Lib.hid (HS.out.grow HI.out.bel)
      have HX := Lib.hid (HX.out.grow HI.out.bel)
      have HW := Lib.hid (below_then HW.out HI.out.bel)
      have himg : ∀ B, imgT (cstL [f0, f1, f2, f3, f4, f5] N) (idxL N) tm hm X B = imgL hm X ((List.range N).map (cstP [f0, f1, f2, f3, f4, f5])) := fun B => by unfold imgT; rw [cst_out]
      have hLat : ∀ i, i < N → (cstL [f0, f1, f2, f3, f4, f5] N)[i]? = some ⟨1, 0, 0, (cstP [f0, f1, f2, f3, f4, f5] i).1, (cstP [f0, f1, f2, f3, f4, f5] i).2⟩ := fun i hi => by
        unfold cstL
        rw [List.getElem?_map, List.getElem?_range hi]
        rfl
      obtain ⟨hPl, hPs, hPb, hPat⟩ := cst_row [f0, f1, f2, f3, f4, f5] hhm.1 hhm.2 HBD.out HXL.out
      obtain ⟨Lc, eLc⟩ : ∃ l, cstL [f0, f1, f2, f3, f4, f5] N = l := ⟨_, rfl⟩
      obtain ⟨Oc, eOc⟩ : ∃ l, idxL N = l := ⟨_, rfl⟩
      obtain ⟨P, eP⟩ : ∃ l, imgL hm X ((List.range N).map (cstP [f0, f1, f2, f3, f4, f5])) = l := ⟨_, rfl⟩
      rw [eLc] at htv2 HUX himg hLat
      rw [eOc] at htv2 HR himg
      rw [eP] at himg hPl hPs hPb hPat
      have hCP : ∀ i, -16777216 ≤ (cstP [f0, f1, f2, f3, f4, f5] i).1 ∧ (cstP [f0, f1, f2, f3, f4, f5] i).1 ≤ (cstP [f0, f1, f2, f3, f4, f5] i).2 ∧ (cstP [f0, f1, f2, f3, f4, f5] i).2 ≤ 16777216 := fun i => smP_bd _ _
      obtain ⟨CP, eCP⟩ : ∃ g, cstP [f0, f1, f2, f3, f4, f5] = g := ⟨_, rfl⟩
      rw [eCP] at hPat hCP hLat
      clear eCP eP eLc eOc hx hi HI i0 i1 hi0 hi1 hz0 hz1 hz2 hy0 hy1 hy2
      have hen : encR (imgT Lc Oc tm hm X) X = some P := encR_cst (fun B _ => himg B) (by rw [hPl, HXL.out]) hPs hPb
      have K1 := Lib.hid (fun w a b c => encl_yes N tm hm (.slice pv N cv) (.slice pr N cr') (.slice pb N cb) Lc Oc X P w a b c htv2 hXN HVX.out htm.1 htm.2 (by omega) (by omega) hen)
      have I1 := Lib.hid (fun w a b c d => image_vx N tm hm (.slice pv N cv) (.slice pr N cr') (.slice pb N cb) (.slice pb N cb) Lc Oc X X w a b c d htv2 hXN hXN HVX.out HVX.out htm.1 htm.2 (by omega) (by omega))
      rw [himg X] at I1
      rw [HXL.out] at K1
      have SP := Lib.hid (fun va vb w a b => sbox_self va vb P N w a b hPl)
      have HPL := Lib.hid hPl
      have HAT := Lib.hid hPat
      have HCP := Lib.hid hCP
      have HLA := Lib.hid hLat
      have HHM := Lib.hid hhm
      clear hen himg htv2 hPl hPs hPb hPat hCP hLat hXN htm hhm c0
      have k0 := heapN_cellj HC.out (k := 0) rfl
      have k1 := heapN_cellj HC.out (k := 1) rfl
      have k2 := heapN_cellj HC.out (k := 2) rfl
      have s0 := heapN_cellj HS.out (k := 0) rfl
      have s1 := heapN_cellj HS.out (k := 1) rfl
      go_wp2_with (fail)
      refine (I1.out _ HUX.out HR.out HX.out HX.out).mono ?_
      rintro e w10 ⟨u9, rfl, hv, hB⟩
      have HC := Lib.hid (HC.out.grow hB)
      have HS := Lib.hid (HS.out.grow hB)
      have HUX := Lib.hid (HUX.out.grow hB)
      have HR := Lib.hid (HR.out.grow hB)
      have HX := Lib.hid (HX.out.grow hB)
      have HW := Lib.hid (below_then HW.out hB)
      clear hB
      obtain ⟨pi, ci, rfl⟩ := hv.cut
      rw [HPL.out] at hv
      have VI1 := Lib.hid hv
      clear hv k0 k1 k2 s0 s1 I1
      have k0 := heapN_cellj HC.out (k := 0) rfl
      have k1 := heapN_cellj HC.out (k := 1) rfl
      have k2 := heapN_cellj HC.out (k := 2) rfl
      have s0 := heapN_cellj HS.out (k := 0) rfl
      have s1 := heapN_cellj HS.out (k := 1) rfl
      go_wp2_with (fail)
      refine (K1.out _ HUX.out HR.out HX.out).mono ?_
      rintro e w11 ⟨pd, cd, rfl, hv, hB⟩
      have HC := Lib.hid (HC.out.grow hB)
      have HS := Lib.hid (HS.out.grow hB)
      have HUX := Lib.hid (HUX.out.grow hB)
      have HR := Lib.hid (HR.out.grow hB)
      have HX := Lib.hid (HX.out.grow hB)
      have VI1 := Lib.hid (VI1.out.grow hB)
      have HW := Lib.hid (below_then HW.out hB)
      clear hB
      have VD := Lib.hid hv
      clear hv k0 k1 k2 s0 s1 K1
      rw [HPL.out]
      go_wp2_with (fail)
      refine (SP.out _ _ _ VD.out VI1.out).mono ?_
      rintro e w12 ⟨rfl, hB⟩
      have HC := Lib.hid (HC.out.grow hB)
      have HS := Lib.hid (HS.out.grow hB)
      have HUX := Lib.hid (HUX.out.grow hB)
      have HR := Lib.hid (HR.out.grow hB)
      have HX := Lib.hid (HX.out.grow hB)
      have VI1 := Lib.hid (VI1.out.grow hB)
      have VD := Lib.hid (VD.out.grow hB)
      have HW := Lib.hid (below_then HW.out hB)
      clear hB
      clear SP
      clear VI1
      have k0 := heapN_cellj HC.out (k := 0) rfl
      go_wp2_with (fail)
      go_loopw [14] (fun i wr => ∃ j : Nat, i = .int .i64 j ∧ j ≤ N ∧ Hid (Below w12.heap.size w12 wr)) (fun i _ => N - (intOf i).toNat)
      case atStart => exact ⟨0, rfl, Nat.zero_le _, Lib.hid (Below.refl _ _)⟩
      case round =>
        clear k0
        obtain ⟨j, rfl, hj, HB⟩ := hrel
        have k0 := heapN_cellj (HC.out.grow HB.out) (k := 0) rfl
        by_cases hlt : j < N
        · have i2 : (j : Int) < N := by omega
          obtain ⟨⟨xl, xh⟩, hx⟩ : ∃ x, X[j]? = some x := ⟨_, List.getElem?_eq_getElem (by rw [HXL.out]; exact hlt)⟩
          obtain ⟨b1, b2, b3⟩ := HBD.out _ (List.mem_of_getElem? hx)
          have hd := HAT.out j _ hx
          have hl := HLA.out j hlt
          obtain ⟨s1, s2, s3⟩ := HCP.out j
          obtain ⟨⟨c, e⟩, ec⟩ : ∃ p, CP j = p := ⟨_, rfl⟩
          rw [ec] at hd hl s1 s2 s3
          dsimp only at hl s1 s2 s3 b1 b2 b3
          obtain ⟨D, U, m1, m2, g, d1, d2, d3, d4, r1, r2, r3, r4, r5, r6, r7⟩ := cst_at HHM.out.1 HHM.out.2 (by omega) b2 (by omega) s1 s2 s3
          rw [g] at hd
          have hvc : VI c e := .inr ⟨by unfold Num; omega, by unfold Num; omega, s2⟩
          have K1 := Lib.hid (fun w => r2contains (xl + D) (xh + U) xl true w (by rw [decide_eq_true (show xl + D ≤ xl by omega), decide_eq_true (show xl ≤ xh + U by omega)]; exact Bool.or_true _))
          have K2 := Lib.hid (fun w => r2mulratio c e hm 65536 w hvc (by have := HHM.out; omega) (by have := HHM.out; omega) (by decide) (by decide))
          have K3 := Lib.hid (fun w => r2add xl xh m1 m2 w (by omega) (by omega) (by omega) (by omega) (by omega) (by omega) (by omega) (by omega))
          have K4 := Lib.hid (fun w => r2sub_at (xl + m1) (xh + m2) (xl + D) (xh + U) true w (by rw [decide_eq_true (show xl + D ≤ xl + m1 by omega), decide_eq_true (show xh + m2 ≤ xh + U by omega)]; rfl))
          rw [r1, r2] at K2
          rw [r6, r7] at K3
          obtain ⟨dl, edl⟩ : ∃ y, xl + D = y := ⟨_, rfl⟩
          obtain ⟨dh, edh⟩ : ∃ y, xh + U = y := ⟨_, rfl⟩
          obtain ⟨al, eal⟩ : ∃ y, xl + m1 = y := ⟨_, rfl⟩
          obtain ⟨ah, eah⟩ : ∃ y, xh + m2 = y := ⟨_, rfl⟩
          rw [edl, edh] at hd K1 K4
          rw [eal, eah] at K3 K4
          obtain ⟨bx, ox, hpx, hbx, rdx⟩ := vx_rd (n := N) HX.out hx
          obtain ⟨bd, od, hpd, hbd, rdd⟩ := vx_rd (n := N) VD.out hd
          obtain ⟨bl, ol, hpl, hbl, rdl⟩ := is_rd (n := N) HUX.out hl
          subst hpx hpd hpl
          have f0 := fun g : Grown wr => (rdx ⟨g.w, HB.out.trans (g.h.mono HB.out.size)⟩).1
          have f1 := fun g : Grown wr => (rdx ⟨g.w, HB.out.trans (g.h.mono HB.out.size)⟩).2
          have g0 := fun g : Grown wr => (rdd ⟨g.w, HB.out.trans (g.h.mono HB.out.size)⟩).1
          have g1 := fun g : Grown wr => (rdd ⟨g.w, HB.out.trans (g.h.mono HB.out.size)⟩).2
          have l3 := fun g : Grown wr => (rdl ⟨g.w, HB.out.trans (g.h.mono HB.out.size)⟩).2.2.2.1
          have l4 := fun g : Grown wr => (rdl ⟨g.w, HB.out.trans (g.h.mono HB.out.size)⟩).2.2.2.2
          have c1 := fun g : Grown wr => heapN_cellj ((HC.out.grow HB.out).grow g.h) (k := 1) rfl
          have t1 := fun g : Grown wr => heapN_cellj ((HS.out.grow HB.out).grow g.h) (k := 1) rfl
          clear rdx rdd rdl hx hd hl s1 s2 s3 b1 b2 b3 g d1 d2 d3 d4 r1 r2 r3 r4 r5 r6 r7 hvc edl edh eal eah ec
          dsimp only at l3 l4
          go_wp2_with (fail)
          refine region_pred (lk [(73, fun z_ _ => z_ = .slice (some ⟨bd, od, none⟩) N cd), (74, fun z_ _ => z_ = .int .i64 (j : Int)), (75, fun z_ _ => z_ = .pointer (some ⟨bd, od + j * 2, none⟩)), (76, fun z_ _ => z_ = .agg #[.int .i64 dl, .int .i64 dh]), (77, fun z_ _ => z_ = .slice (some ⟨bx, ox, none⟩) N cb), (78, fun z_ _ => z_ = .int .i64 (j : Int)), (79, fun z_ _ => z_ = .pointer (some ⟨bx, ox + j * 2, none⟩)), (80, fun z_ _ => z_ = .pointer (some ⟨bx, ox + j * 2, none⟩)), (81, fun z_ _ => z_ = .int .i64 xl), (82, fun z_ _ => z_ = .bool true), (83, fun z_ _ => z_ = .bool false), (84, fun z_ _ => z_ = .bool false), (85, fun z_ _ => z_ = .slice (some ⟨bx, ox, none⟩) N cb), (86, fun z_ _ => z_ = .int .i64 (j : Int)), (87, fun z_ _ => z_ = .pointer (some ⟨bx, ox + j * 2, none⟩)), (88, fun z_ _ => z_ = .agg #[.int .i64 xl, .int .i64 xh]), (89, fun z_ _ => z_ = .pointer (some ⟨W5.heap.size, 1, none⟩)), (90, fun z_ _ => z_ = .slice (some ⟨bl, ol, none⟩) N cv), (91, fun z_ _ => z_ = .int .i64 (j : Int)), (92, fun z_ _ => z_ = .pointer (some ⟨bl, ol + j * 5, none⟩)), (93, fun z_ _ => z_ = .pointer (some ⟨bl, ol + j * 5 + 3, none⟩)), (94, fun z_ _ => z_ = .agg #[.int .i64 c, .int .i64 e]), (95, fun z_ _ => z_ = .pointer (some ⟨w2.heap.size + 1, 1, none⟩)), (96, fun z_ _ => z_ = .int .i64 hm), (97, fun z_ _ => z_ = .agg #[.int .i64 m1, .int .i64 m2]), (98, fun z_ _ => z_ = .agg #[.int .i64 al, .int .i64 ah]), (99, fun z_ _ => z_ = .slice (some ⟨bd, od, none⟩) N cd), (100, fun z_ _ => z_ = .int .i64 (j : Int)), (101, fun z_ _ => z_ = .pointer (some ⟨bd, od + j * 2, none⟩)), (102, fun z_ _ => z_ = .agg #[.int .i64 dl, .int .i64 dh]), (103, fun z_ _ => z_ = .bool true), (104, fun z_ _ => z_ = .bool false), (105, fun z_ _ => z_ = .bool false)]) (by kernel_rfl) (by kernel_rfl) (lk_steady _ ⟨steady_eq _, steady_eq _, steady_eq _, steady_eq _, steady_eq _, steady_eq _, steady_eq _, steady_eq _, steady_eq _, steady_eq _, steady_eq _, steady_eq _, steady_eq _, steady_eq _, steady_eq _, steady_eq _, steady_eq _, steady_eq _, steady_eq _, steady_eq _, steady_eq _, steady_eq _, steady_eq _, steady_eq _, steady_eq _, steady_eq _, steady_eq _, steady_eq _, steady_eq _, steady_eq _, steady_eq _, steady_eq _, steady_eq _, trivial⟩) ?_ ?_
          · refine ⟨?_, ?_, ?_, ?_, ?_, ?_, ?_, ?_, ?_, ?_, ?_, ?_, ?_, ?_, ?_, ?_, ?_, ?_, ?_, ?_, ?_, ?_, ?_, ?_, ?_, ?_, ?_, ?_, ?_, ?_, ?_, ?_, ?_, trivial⟩
            · refine ob_plain [12] rfl rfl fun aa g h => ?_
              have yy0 := seen_out (v := .slice (some ⟨bd, od, none⟩) N cd) rfl rfl h.1
              have ee0 := getD_of yy0
              exact tupon_value (v := .slice (some ⟨bd, od, none⟩) N cd) (by simp [go_sem, ee0, yy0]) (Below.refl _ _) rfl
            · refine ob_plain [14] rfl rfl fun aa g h => ?_
              have yy0 := seen_out (v := .int .i64 (j : Int)) rfl rfl h.1
              have ee0 := getD_of yy0
              exact tupon_value (v := .int .i64 (j : Int)) (by simp [go_sem, ee0, yy0]) (Below.refl _ _) rfl
            · refine ob_plain [73, 74] rfl rfl fun aa g h => ?_
              obtain ⟨_, yy0, rfl⟩ := seen_in rfl h.1
              have ee0 := getD_of yy0
              obtain ⟨_, yy1, rfl⟩ := seen_in rfl h.2.1
              have ee1 := getD_of yy1
              exact tupon_value (v := .pointer (some ⟨bd, od + j * 2, none⟩)) (by simp [go_sem, ee0, yy0, ee1, yy1, i2]) (Below.refl _ _) rfl
            · refine ob_plain [75] rfl rfl fun aa g h => ?_
              obtain ⟨_, yy0, rfl⟩ := seen_in rfl h.1
              have ee0 := getD_of yy0
              exact tupon_value (v := .agg #[.int .i64 dl, .int .i64 dh]) (by simp [go_sem, ee0, yy0, g0 g, g1 g]) (Below.refl _ _) rfl
            · refine ob_plain [7] rfl rfl fun aa g h => ?_
              have yy0 := seen_out (v := .slice (some ⟨bx, ox, none⟩) N cb) rfl rfl h.1
              have ee0 := getD_of yy0
              exact tupon_value (v := .slice (some ⟨bx, ox, none⟩) N cb) (by simp [go_sem, ee0, yy0]) (Below.refl _ _) rfl
            · refine ob_plain [14] rfl rfl fun aa g h => ?_
              have yy0 := seen_out (v := .int .i64 (j : Int)) rfl rfl h.1
              have ee0 := getD_of yy0
              exact tupon_value (v := .int .i64 (j : Int)) (by simp [go_sem, ee0, yy0]) (Below.refl _ _) rfl
            · refine ob_plain [77, 78] rfl rfl fun aa g h => ?_
              obtain ⟨_, yy0, rfl⟩ := seen_in rfl h.1
              have ee0 := getD_of yy0
              obtain ⟨_, yy1, rfl⟩ := seen_in rfl h.2.1
              have ee1 := getD_of yy1
              exact tupon_value (v := .pointer (some ⟨bx, ox + j * 2, none⟩)) (by simp [go_sem, ee0, yy0, ee1, yy1, i2]) (Below.refl _ _) rfl
            · refine ob_plain [79] rfl rfl fun aa g h => ?_
              obtain ⟨_, yy0, rfl⟩ := seen_in rfl h.1
              have ee0 := getD_of yy0
              exact tupon_value (v := .pointer (some ⟨bx, ox + j * 2, none⟩)) (by simp [go_sem, ee0, yy0]) (Below.refl _ _) rfl
            · refine ob_plain [80] rfl rfl fun aa g h => ?_
              obtain ⟨_, yy0, rfl⟩ := seen_in rfl h.1
              have ee0 := getD_of yy0
              exact tupon_value (v := .int .i64 xl) (by simp [go_sem, ee0, yy0, f0 g]) (Below.refl _ _) rfl
            · refine ob_plain [76, 81] rfl rfl fun aa g h => ?_
              obtain ⟨_, yy0, rfl⟩ := seen_in rfl h.1
              have ee0 := getD_of yy0
              obtain ⟨_, yy1, rfl⟩ := seen_in rfl h.2.1
              have ee1 := getD_of yy1
              refine tupon_enter (f := 29) (args := #[.agg #[.int .i64 dl, .int .i64 dh], .int .i64 xl]) (by simp [go_sem, ee0, yy0, ee1, yy1]) rfl ?_
              exact (K1.out g.w).mono fun e w' ⟨he, hB⟩ => ⟨_, he, hB, rfl⟩
            · refine ob_plain [82] rfl rfl fun aa g h => ?_
              obtain ⟨_, yy0, rfl⟩ := seen_in rfl h.1
              have ee0 := getD_of yy0
              exact tupon_value (v := .bool false) (by simp [go_sem, ee0, yy0]) (Below.refl _ _) rfl
            · refine ob_plain [83] rfl rfl fun aa g h => ?_
              obtain ⟨_, yy0, rfl⟩ := seen_in rfl h.1
              have ee0 := getD_of yy0
              exact tupon_value (v := .bool false) (by simp [go_sem, ee0, yy0]) (Below.refl _ _) rfl
            · refine ob_gtrue [7] _ false 84 rfl rfl rfl rfl (fun v w h => h) fun aa g h => ?_
              have yy0 := seen_out (v := .slice (some ⟨bx, ox, none⟩) N cb) rfl rfl h.1
              have ee0 := getD_of yy0
              exact tupon_value (v := .slice (some ⟨bx, ox, none⟩) N cb) (by simp [go_sem, ee0, yy0]) (Below.refl _ _) rfl
            · refine ob_gtrue [14] _ false 84 rfl rfl rfl rfl (fun v w h => h) fun aa g h => ?_
              have yy0 := seen_out (v := .int .i64 (j : Int)) rfl rfl h.1
              have ee0 := getD_of yy0
              exact tupon_value (v := .int .i64 (j : Int)) (by simp [go_sem, ee0, yy0]) (Below.refl _ _) rfl
            · refine ob_gtrue [85, 86] _ false 84 rfl rfl rfl rfl (fun v w h => h) fun aa g h => ?_
              obtain ⟨_, yy0, rfl⟩ := seen_in rfl h.1
              have ee0 := getD_of yy0
              obtain ⟨_, yy1, rfl⟩ := seen_in rfl h.2.1
              have ee1 := getD_of yy1
              exact tupon_value (v := .pointer (some ⟨bx, ox + j * 2, none⟩)) (by simp [go_sem, ee0, yy0, ee1, yy1, i2]) (Below.refl _ _) rfl
            · refine ob_gtrue [87] _ false 84 rfl rfl rfl rfl (fun v w h => h) fun aa g h => ?_
              obtain ⟨_, yy0, rfl⟩ := seen_in rfl h.1
              have ee0 := getD_of yy0
              exact tupon_value (v := .agg #[.int .i64 xl, .int .i64 xh]) (by simp [go_sem, ee0, yy0, f0 g, f1 g]) (Below.refl _ _) rfl
            · refine ob_gtrue [9] _ false 84 rfl rfl rfl rfl (fun v w h => h) fun aa g h => ?_
              have yy0 := seen_out (v := .pointer (some ⟨W5.heap.size, 0, none⟩)) rfl rfl h.1
              have ee0 := getD_of yy0
              exact tupon_value (v := .pointer (some ⟨W5.heap.size, 1, none⟩)) (by simp [go_sem, ee0, yy0]) (Below.refl _ _) rfl
            · refine ob_gtrue [89] _ false 84 rfl rfl rfl rfl (fun v w h => h) fun aa g h => ?_
              obtain ⟨_, yy0, rfl⟩ := seen_in rfl h.1
              have ee0 := getD_of yy0
              exact tupon_value (v := .slice (some ⟨bl, ol, none⟩) N cv) (by simp [go_sem, ee0, yy0, c1 g]) (Below.refl _ _) rfl
            · refine ob_gtrue [14] _ false 84 rfl rfl rfl rfl (fun v w h => h) fun aa g h => ?_
              have yy0 := seen_out (v := .int .i64 (j : Int)) rfl rfl h.1
              have ee0 := getD_of yy0
              exact tupon_value (v := .int .i64 (j : Int)) (by simp [go_sem, ee0, yy0]) (Below.refl _ _) rfl
            · refine ob_gtrue [90, 91] _ false 84 rfl rfl rfl rfl (fun v w h => h) fun aa g h => ?_
              obtain ⟨_, yy0, rfl⟩ := seen_in rfl h.1
              have ee0 := getD_of yy0
              obtain ⟨_, yy1, rfl⟩ := seen_in rfl h.2.1
              have ee1 := getD_of yy1
              exact tupon_value (v := .pointer (some ⟨bl, ol + j * 5, none⟩)) (by simp [go_sem, ee0, yy0, ee1, yy1, i2]) (Below.refl _ _) rfl
            · refine ob_gtrue [92] _ false 84 rfl rfl rfl rfl (fun v w h => h) fun aa g h => ?_
              obtain ⟨_, yy0, rfl⟩ := seen_in rfl h.1
              have ee0 := getD_of yy0
              exact tupon_value (v := .pointer (some ⟨bl, ol + j * 5 + 3, none⟩)) (by simp [go_sem, ee0, yy0]) (Below.refl _ _) rfl
            · refine ob_gtrue [93] _ false 84 rfl rfl rfl rfl (fun v w h => h) fun aa g h => ?_
              obtain ⟨_, yy0, rfl⟩ := seen_in rfl h.1
              have ee0 := getD_of yy0
              exact tupon_value (v := .agg #[.int .i64 c, .int .i64 e]) (by simp [go_sem, ee0, yy0, l3 g, l4 g]) (Below.refl _ _) rfl
            · refine ob_gtrue [8] _ false 84 rfl rfl rfl rfl (fun v w h => h) fun aa g h => ?_
              have yy0 := seen_out (v := .pointer (some ⟨w2.heap.size + 1, 0, none⟩)) rfl rfl h.1
              have ee0 := getD_of yy0
              exact tupon_value (v := .pointer (some ⟨w2.heap.size + 1, 1, none⟩)) (by simp [go_sem, ee0, yy0]) (Below.refl _ _) rfl
            · refine ob_gtrue [95] _ false 84 rfl rfl rfl rfl (fun v w h => h) fun aa g h => ?_
              obtain ⟨_, yy0, rfl⟩ := seen_in rfl h.1
              have ee0 := getD_of yy0
              exact tupon_value (v := .int .i64 hm) (by simp [go_sem, ee0, yy0, t1 g]) (Below.refl _ _) rfl
            · refine ob_gtrue [94, 96] _ false 84 rfl rfl rfl rfl (fun v w h => h) fun aa g h => ?_
              obtain ⟨_, yy0, rfl⟩ := seen_in rfl h.1
              have ee0 := getD_of yy0
              obtain ⟨_, yy1, rfl⟩ := seen_in rfl h.2.1
              have ee1 := getD_of yy1
              refine tupon_enter (f := 32) (args := #[.agg #[.int .i64 c, .int .i64 e], .int .i64 hm, .int .i64 65536]) (by simp [go_sem, ee0, yy0, ee1, yy1]) rfl ?_
              exact (K2.out g.w).mono fun e w' ⟨he, hB⟩ => ⟨_, he, hB, rfl⟩
            · refine ob_gtrue [88, 97] _ false 84 rfl rfl rfl rfl (fun v w h => h) fun aa g h => ?_
              obtain ⟨_, yy0, rfl⟩ := seen_in rfl h.1
              have ee0 := getD_of yy0
              obtain ⟨_, yy1, rfl⟩ := seen_in rfl h.2.1
              have ee1 := getD_of yy1
              refine tupon_enter (f := 31) (args := #[.agg #[.int .i64 xl, .int .i64 xh], .agg #[.int .i64 m1, .int .i64 m2]]) (by simp [go_sem, ee0, yy0, ee1, yy1]) rfl ?_
              exact (K3.out g.w).mono fun e w' ⟨he, hB⟩ => ⟨_, he, hB, rfl⟩
            · refine ob_gtrue [12] _ false 84 rfl rfl rfl rfl (fun v w h => h) fun aa g h => ?_
              have yy0 := seen_out (v := .slice (some ⟨bd, od, none⟩) N cd) rfl rfl h.1
              have ee0 := getD_of yy0
              exact tupon_value (v := .slice (some ⟨bd, od, none⟩) N cd) (by simp [go_sem, ee0, yy0]) (Below.refl _ _) rfl
            · refine ob_gtrue [14] _ false 84 rfl rfl rfl rfl (fun v w h => h) fun aa g h => ?_
              have yy0 := seen_out (v := .int .i64 (j : Int)) rfl rfl h.1
              have ee0 := getD_of yy0
              exact tupon_value (v := .int .i64 (j : Int)) (by simp [go_sem, ee0, yy0]) (Below.refl _ _) rfl
            · refine ob_gtrue [99, 100] _ false 84 rfl rfl rfl rfl (fun v w h => h) fun aa g h => ?_
              obtain ⟨_, yy0, rfl⟩ := seen_in rfl h.1
              have ee0 := getD_of yy0
              obtain ⟨_, yy1, rfl⟩ := seen_in rfl h.2.1
              have ee1 := getD_of yy1
              exact tupon_value (v := .pointer (some ⟨bd, od + j * 2, none⟩)) (by simp [go_sem, ee0, yy0, ee1, yy1, i2]) (Below.refl _ _) rfl
            · refine ob_gtrue [101] _ false 84 rfl rfl rfl rfl (fun v w h => h) fun aa g h => ?_
              obtain ⟨_, yy0, rfl⟩ := seen_in rfl h.1
              have ee0 := getD_of yy0
              exact tupon_value (v := .agg #[.int .i64 dl, .int .i64 dh]) (by simp [go_sem, ee0, yy0, g0 g, g1 g]) (Below.refl _ _) rfl
            · refine ob_gtrue [98, 102] _ false 84 rfl rfl rfl rfl (fun v w h => h) fun aa g h => ?_
              obtain ⟨_, yy0, rfl⟩ := seen_in rfl h.1
              have ee0 := getD_of yy0
              obtain ⟨_, yy1, rfl⟩ := seen_in rfl h.2.1
              have ee1 := getD_of yy1
              refine tupon_enter (f := 30) (args := #[.agg #[.int .i64 al, .int .i64 ah], .agg #[.int .i64 dl, .int .i64 dh]]) (by simp [go_sem, ee0, yy0, ee1, yy1]) rfl ?_
              exact (K4.out g.w).mono fun e w' ⟨he, hB⟩ => ⟨_, he, hB, rfl⟩
            · refine ob_gtrue [103] _ false 84 rfl rfl rfl rfl (fun v w h => h) fun aa g h => ?_
              obtain ⟨_, yy0, rfl⟩ := seen_in rfl h.1
              have ee0 := getD_of yy0
              exact tupon_value (v := .bool false) (by simp [go_sem, ee0, yy0]) (Below.refl _ _) rfl
            · refine ob_plain [84, 104] rfl rfl fun aa g h => ?_
              obtain ⟨_, yy0, rfl⟩ := seen_in rfl h.1
              have ee0 := getD_of yy0
              obtain ⟨_, yy1, rfl⟩ := seen_in rfl h.2.1
              have ee1 := getD_of yy1
              exact tupon_value (v := .bool false) (by simp [go_sem, ee0, yy0, ee1, yy1]) (Below.refl _ _) rfl
          rintro w9 hB9 _ rfl _ rfl _ rfl _ rfl _ rfl _ rfl _ rfl _ rfl _ rfl _ rfl _ rfl _ rfl _ rfl _ rfl _ rfl _ rfl _ rfl _ rfl _ rfl _ rfl _ rfl _ rfl _ rfl _ rfl _ rfl _ rfl _ rfl _ rfl _ rfl _ rfl _ rfl _ rfl _ rfl
          simp only [Act.put, List.setIfInBounds_toArray, List.set_cons_succ, List.set_cons_zero, List.filterMap_nil, finP]
          have HB9 := Lib.hid (HB.out.trans (hB9.mono HB.out.size))
          clear hB9 f0 f1 g0 g1 l3 l4 c1 t1 k0 HB K1 K2 K3 K4
          go_wp2_with (fail)
          go_roundw
          case rel => exact ⟨j + 1, by go_num, by omega, HB9⟩
          case measure => simp [intOf]; omega
        · obtain rfl : N = j := by omega
          have i2 : ¬ (N : Int) < N := by omega
          have HT := Lib.hid (below_then HW.out HB.out)
          go_wp2_with (fail)
          go_ret
          exact ⟨rfl, HT.out⟩
end Go.Proofs.Ytecmgiihacigaaa
