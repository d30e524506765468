/-
 The tape's reference: Decompile.
-/
import Derived.Test.YtajddejeglhbhaaUC
import Derived.Maps.AppendAt
namespace Go.Proofs.Ytajddejeglhbhaa
open Go.ChangeShapes Go.WideShapes Go.ChangeAt Go.RowKit Go.Maps
set_option linter.unusedVariables false
set_option linter.unusedSimpArgs false
set_option maxRecDepth 100000
attribute [local irreducible] Calls
theorem row_tr {N : Int} {L : List Is} (h : VL N L) {i : Nat} (hi : i < L.length) : rowD L i = if (pre (trL L L.length i)).length ≤ 200 then pre (trL L L.length i) else [] := by
 unfold rowD
 rw [(tr_all h L.length i hi hi).2.2]
theorem row_len {N : Int} {L : List Is} (h : VL N L) {i : Nat} (hi : i < L.length) : (rowD L i).length ≤ 200 := by
 unfold rowD
 split
 ·assumption
 ·simp
theorem raI_ar {op : Int} (h1 : 1 ≤ op) (h2 : op ≤ 10) : raI op = arI op := by
 unfold raI arI
 (repeat' split) <;> omega
theorem row_0 {N : Int} {L : List Is} (h : VL N L) {i : Nat} {x : Is} (hx : L[i]? = some x) (ho : opsI x = []) : rowD L i = [ndI x] := by
 have hi := (List.getElem?_eq_some_iff.1 hx).1
 rw [row_tr h hi]
 rcases tr_step h hx with ⟨h1, h2, h3⟩ | ⟨a, _, _, h1, _⟩ | ⟨a, b, _, _, _, h1, _⟩
 ·rw [h3]
  simp [pre]
 ·rw [ho] at h1; cases h1
 ·rw [ho] at h1; cases h1
theorem row_k1 (x : Nd) (p : List Nd) (hp : 0 < p.length) : (if (x :: p).length ≤ 200 then x :: p else []) = (if 0 < (if p.length ≤ 200 then p else []).length ∧ 1 + (if p.length ≤ 200 then p else []).length ≤ 200 then x :: (if p.length ≤ 200 then p else []) else []) := by
 by_cases hl : p.length ≤ 200
 ·rw [if_pos hl]
  by_cases h2 : (x :: p).length ≤ 200
  ·rw [if_pos h2, if_pos ⟨hp, by simp at h2; omega⟩]
  ·rw [if_neg h2, if_neg (by simp at h2; omega)]
 ·rw [if_neg hl, if_neg (by simp; omega), if_neg (by simp)]
theorem row_k2 (x : Nd) (p q : List Nd) (hp : 0 < p.length) (hq : 0 < q.length) : (if (x :: (p ++ q)).length ≤ 200 then x :: (p ++ q) else []) = (if 0 < (if p.length ≤ 200 then p else []).length ∧ 0 < (if q.length ≤ 200 then q else []).length ∧ 1 + (if p.length ≤ 200 then p else []).length + (if q.length ≤ 200 then q else []).length ≤ 200 then x :: ((if p.length ≤ 200 then p else []) ++ (if q.length ≤ 200 then q else [])) else []) := by
 by_cases hl : p.length ≤ 200
 ·by_cases hm : q.length ≤ 200
  ·rw [if_pos hl, if_pos hm]
   by_cases h2 : (x :: (p ++ q)).length ≤ 200
   ·rw [if_pos h2, if_pos ⟨hp, hq, by simp at h2; omega⟩]
   ·rw [if_neg h2, if_neg (by simp at h2; omega)]
  ·rw [if_neg hm, if_neg (by simp; omega), if_neg (by simp)]
 ·rw [if_neg hl, if_neg (by simp; omega), if_neg (by simp)]
theorem row_1 {N : Int} {L : List Is} (h : VL N L) {i a : Nat} {x : Is} (hx : L[i]? = some x) (ho : opsI x = [(a : Int)]) (ha : a < i) : rowD L i = if 0 < (rowD L a).length ∧ 1 + (rowD L a).length ≤ 200 then ndI x :: rowD L a else [] := by
 have hi := (List.getElem?_eq_some_iff.1 hx).1
 rw [row_tr h hi, row_tr h (show a < L.length by omega)]
 rcases tr_step h hx with ⟨h1, h2, h3⟩ | ⟨a', _, _, h1, h3⟩ | ⟨a', b, _, _, _, h1, _⟩
 ·rw [ho] at h1; cases h1
 ·rw [ho] at h1
  obtain rfl : a = a' := by simp at h1; omega
  rw [h3]
  exact row_k1 (ndI x) _ (pre_pos _)
 ·rw [ho] at h1; cases h1
theorem row_2 {N : Int} {L : List Is} (h : VL N L) {i a b : Nat} {x : Is} (hx : L[i]? = some x) (ho : opsI x = [(a : Int), (b : Int)]) (ha : a < i) (hb : b < i) : rowD L i = if 0 < (rowD L a).length ∧ 0 < (rowD L b).length ∧ 1 + (rowD L a).length + (rowD L b).length ≤ 200 then ndI x :: (rowD L a ++ rowD L b) else [] := by
 have hi := (List.getElem?_eq_some_iff.1 hx).1
 rw [row_tr h hi, row_tr h (show a < L.length by omega), row_tr h (show b < L.length by omega)]
 rcases tr_step h hx with ⟨h1, h2, h3⟩ | ⟨a', _, _, h1, h3⟩ | ⟨a', b', _, _, _, h1, h3⟩
 ·rw [ho] at h1; cases h1
 ·rw [ho] at h1; cases h1
 ·rw [ho] at h1
  obtain ⟨e1, e2⟩ : a = a' ∧ b = b' := by simp at h1; omega
  subst e1 e2
  rw [h3]
  exact row_k2 (ndI x) _ _ (pre_pos _) (pre_pos _)
theorem nxo_nil (W : World) : NxO W (.slice none 0 0) [] := ⟨⟨Rx.nil _ _ _, none, 0, rfl, Nat.le_refl _, fun _ => rfl⟩, fun a n c e => by cases e⟩
theorem ownl_keep {B B' : Nat} {W W' : World} {v r : Value} {l : List (List Nd)} {us xs : List Value} {n : Nat} (h : OwnL B W v l us) (hr : W.ownsRow B' 54 1 r n xs) (hg : W.grownBy W' r.ownBlock) (hs : ∀ g, v.ownBlock = some g → r.ownBlock ≠ some g) : OwnL B W' v l us :=
 ⟨h.row.kept hg (by
  cases e : v.ownBlock with
  | none => exact .inl rfl
  | some g => exact .inr (fun e2 => hs g e e2.symm)), fun k u x h1 h2 => nxo_push (h.el k u x h1 h2) hr hg⟩
theorem isc_at {W W' : World} {X : Nat} {x : Is} (h : IsC W X x) (e : W'.heap[X]? = W.heap[X]?) : IsC W' X x := e.trans h
def rowsK (L : List Is) (k : Nat) : List (List Nd) := (List.range k).map (fun (i : Nat) => rowD L (i : Int))
theorem rowsK_len (L : List Is) (k : Nat) : (rowsK L k).length = k := by simp [rowsK]
theorem rowsK_snoc (L : List Is) (k : Nat) : rowsK L (k + 1) = rowsK L k ++ [rowD L k] := by
 unfold rowsK
 rw [List.range_succ, List.map_append]
 rfl
theorem rowsK_at (L : List Is) {k j : Nat} (h : j < k) : (rowsK L k)[j]? = some (rowD L j) := by
 unfold rowsK
 rw [List.getElem?_map, List.getElem?_range h]
 rfl
theorem one_any (u : Value) (p : Option Addr) (n c : Nat) (h : u = .slice p n c) : ∀ x ∈ [u], x.oneCell' = true := by
 intro x hx
 simp at hx
 subst hx h
 rfl
theorem own_emptyR (W : World) : (W.alloc (.cells #[] 54)).ownsRow W.heap.size 54 1 (.slice (some ⟨W.heap.size, 0, none⟩) 0 0) 0 [] := World.ownsRow_made W #[] 0 (Nat.le_refl _) (Nat.zero_le _) rfl
set_option maxHeartbeats 64000000 in
theorem rdec_ok (n : Int) (vl vo : Value) (L : List Is) (out : List Int) (w : World) (hl : Ix w vl L) (ho : Px w vo out) (htv : tvB n L out = true) :
  Calls Try.prog 37 #[.agg #[.int .i64 n, vl, vo]] w fun e w' => ∃ u, e = .returned u ∧ (∃ us, OwnL w.heap.size w' u (out.map (rowD L)) us) ∧ Below w.heap.size w w' := by
 obtain ⟨i1, hi1, hy0, hy1, hy2⟩ := info_parts info_ns
 obtain ⟨pl, cl, rfl⟩ := hl.cut
 obtain ⟨po, co, rfl⟩ := ho.cut
 obtain ⟨hn1, hn6, h400, hon, hvl, hout⟩ := tv_cases htv
 have hvl : VL n L := hvl
 have hol : out.length ≤ 6 := by omega
 have HL := Lib.hid hl
 have HO := Lib.hid ho
 have HV := Lib.hid hvl
 have HOUT := Lib.hid hout
 have hE : Below w.heap.size w (((w.alloc (.cells #[.int .i64 n, .slice pl L.length cl, .slice po out.length co] 25)).alloc (.cells #[] 54)).alloc (.cells #[] 54)) := allocs_below [.cells #[.int .i64 n, .slice pl L.length cl, .slice po out.length co] 25, .cells #[] 54, .cells #[] 54] w
 have hA : (((w.alloc (.cells #[.int .i64 n, .slice pl L.length cl, .slice po out.length co] 25)).alloc (.cells #[] 54)).alloc (.cells #[] 54)).heap[w.heap.size + 0]? = some (.cells #[.int .i64 n, .slice pl L.length cl, .slice po out.length co] 25) := allocs_at [.cells #[.int .i64 n, .slice pl L.length cl, .slice po out.length co] 25, .cells #[] 54, .cells #[] 54] w 0 _ rfl
 rw [Nat.add_zero] at hA
 have hC : (((w.alloc (.cells #[.int .i64 n, .slice pl L.length cl, .slice po out.length co] 25)).alloc (.cells #[] 54)).alloc (.cells #[] 54)).heap[w.heap.size + 2]? = some (.cells #[] 54) := allocs_at [.cells #[.int .i64 n, .slice pl L.length cl, .slice po out.length co] 25, .cells #[] 54, .cells #[] 54] w 2 _ rfl
 have hR : (((w.alloc (.cells #[.int .i64 n, .slice pl L.length cl, .slice po out.length co] 25)).alloc (.cells #[] 54)).alloc (.cells #[] 54)).ownsRow w.heap.size 54 1 (.slice (some ⟨w.heap.size + 1, 0, none⟩) 0 0) 0 [] := by
  have h := own_emptyR (w.alloc (.cells #[.int .i64 n, .slice pl L.length cl, .slice po out.length co] 25))
  rw [alloc_sz] at h
  exact (own_base h (by omega)).alloc _
 have HA := Lib.hid hA
 have HC := Lib.hid hC
 have HR0 := Lib.hid hR
 have HE := Lib.hid hE
 clear hl ho htv hvl hout hA hC hR hE hon
 go_enter Try.func37, Try.ntmps37
 go_wp2_with (fail)
 go_loopw [3, 5] (fun v i wr => ∃ (k : Nat) (us : List Value), i = .int .i64 k ∧ k ≤ L.length ∧ Hid (OwnL w.heap.size wr v (rowsK L k) us) ∧ Hid (∀ g, v.ownBlock = some g → g ≠ w.heap.size + 2) ∧ Hid (wr.heap[w.heap.size + 2]? = some (.cells #[] 54 (0, 0))) ∧ Hid (wr.heap[w.heap.size]? = some (.cells #[.int .i64 n, .slice pl L.length cl, .slice po out.length co] 25 (0, 0))) ∧ Hid (Below w.heap.size w wr)) (fun v i _ => L.length - (intOf i).toNat)
 case atStart => exact ⟨0, [], rfl, Nat.zero_le _, Lib.hid ⟨HR0.out, fun k u x h1 h2 => by simp at h1⟩, Lib.hid (fun g e => by simp only [Value.ownBlock, Option.some.injEq] at e; omega), HC, HA, HE⟩
 case round =>
  clear HR0 HC HA HE
  obtain ⟨k, us, rfl, hk, HOL, HNE, HC, HA, HB⟩ := hrel
  have m0 := heapN_cellj HA.out (k := 1) rfl
  obtain ⟨pv, cv, hpv⟩ := own_slice HOL.out.row
  rw [rowsK_len] at hpv
  subst hpv
  by_cases hlt : k < L.length
  ·have i2 : (k : Int) < L.length := by omega
   obtain ⟨⟨op, a, b, lo, hi'⟩, hx⟩ : ∃ x, L[k]? = some x := ⟨_, List.getElem?_eq_getElem hlt⟩
   obtain ⟨bl, ol, rfl, hbl, rdl⟩ := is_rd HL.out hx
   obtain ⟨f0, f1, f2, f3, f4⟩ := rdl ⟨wr, HB.out⟩
   dsimp only at f0 f1 f2 f3 f4
   have hvx := HV.out k _ hx
   have hopb : 1 ≤ op ∧ op ≤ 10 := by have h := vin_cases hvx; dsimp only at h; omega
   have hra := raI_ar hopb.1 hopb.2
   have hoc := ops_cases hvx
   dsimp only at hoc
   have KA := Lib.hid (fun w => rarity_ok op w)
   rw [hra] at KA
   have hsz : w.heap.size + 3 ≤ wr.heap.size := by have := (Array.getElem?_eq_some_iff.1 HC.out).1; omega
   have hndx : ndI ⟨op, a, b, lo, hi'⟩ = ⟨op, if op = 2 then a else 0, lo, hi'⟩ := rfl
   obtain ⟨nn, hnn⟩ : ∃ nn, (if op = 2 then a else 0) = nn := ⟨_, rfl⟩
   rw [hnn] at hndx
   have HROW0 := Lib.hid (fun h => row_0 HV.out hx h)
   have HROW1 := Lib.hid (fun a' h1 h2 => row_1 (a := a') HV.out hx h1 h2)
   have HROW2 := Lib.hid (fun a' b' h1 h2 h3 => row_2 (a := a') (b := b') HV.out hx h1 h2 h3)
   rw [hndx] at HROW0 HROW1 HROW2
   have hE : Below wr.heap.size wr (((wr.alloc (.cells #[.int .i64 op, .int .i64 a, .int .i64 b, .int .i64 lo, .int .i64 hi'] 59)).alloc (.cells #[.int .i64 op, .int .i64 nn, .int .i64 lo, .int .i64 hi'] 62)).alloc (.cells #[.int .i64 op, .int .i64 nn, .int .i64 lo, .int .i64 hi'] 62)) := allocs_below [.cells #[.int .i64 op, .int .i64 a, .int .i64 b, .int .i64 lo, .int .i64 hi'] 59, .cells #[.int .i64 op, .int .i64 nn, .int .i64 lo, .int .i64 hi'] 62, .cells #[.int .i64 op, .int .i64 nn, .int .i64 lo, .int .i64 hi'] 62] wr
   have XI := Lib.hid (show IsC (((wr.alloc (.cells #[.int .i64 op, .int .i64 a, .int .i64 b, .int .i64 lo, .int .i64 hi'] 59)).alloc (.cells #[.int .i64 op, .int .i64 nn, .int .i64 lo, .int .i64 hi'] 62)).alloc (.cells #[.int .i64 op, .int .i64 nn, .int .i64 lo, .int .i64 hi'] 62)) wr.heap.size ⟨op, a, b, lo, hi'⟩ from allocs_at [.cells #[.int .i64 op, .int .i64 a, .int .i64 b, .int .i64 lo, .int .i64 hi'] 59, .cells #[.int .i64 op, .int .i64 nn, .int .i64 lo, .int .i64 hi'] 62, .cells #[.int .i64 op, .int .i64 nn, .int .i64 lo, .int .i64 hi'] 62] wr 0 _ rfl)
   have ZR := Lib.hid (show (((wr.alloc (.cells #[.int .i64 op, .int .i64 a, .int .i64 b, .int .i64 lo, .int .i64 hi'] 59)).alloc (.cells #[.int .i64 op, .int .i64 nn, .int .i64 lo, .int .i64 hi'] 62)).alloc (.cells #[.int .i64 op, .int .i64 nn, .int .i64 lo, .int .i64 hi'] 62)).ownsRow (wr.heap.size + 2) 62 4 (.slice (some ⟨wr.heap.size + 2, 0, none⟩) 1 1) 1 (encN ⟨op, nn, lo, hi'⟩) from ⟨rfl, .inr ⟨wr.heap.size + 2, 1, _, rfl, Nat.le_refl _, allocs_at [.cells #[.int .i64 op, .int .i64 a, .int .i64 b, .int .i64 lo, .int .i64 hi'] 59, .cells #[.int .i64 op, .int .i64 nn, .int .i64 lo, .int .i64 hi'] 62, .cells #[.int .i64 op, .int .i64 nn, .int .i64 lo, .int .i64 hi'] 62] wr 2 _ rfl, Nat.le_refl _, by decide, rfl, by simp [encN]⟩⟩)
   have HBW := Lib.hid hE
   have hs2 : wr.heap.size + 3 ≤ (((wr.alloc (.cells #[.int .i64 op, .int .i64 a, .int .i64 b, .int .i64 lo, .int .i64 hi'] 59)).alloc (.cells #[.int .i64 op, .int .i64 nn, .int .i64 lo, .int .i64 hi'] 62)).alloc (.cells #[.int .i64 op, .int .i64 nn, .int .i64 lo, .int .i64 hi'] 62)).heap.size := by rw [alloc_sz, alloc_sz, alloc_sz]; omega
   have HHN := Lib.hid hnn
   have HHX := Lib.hid hndx
   clear hx rdl hvx hopb hra hE hndx
   rcases hoc with ⟨ho, har, _, _⟩ | ⟨ho, har, _, _, ha1, ha2⟩ | ⟨ho, har, _, ha1, ha2, hb1, hb2⟩
   ·rw [har] at KA
    by_cases h2 : op = 2
    ·subst h2
     rw [if_pos rfl] at hnn
     subst hnn
     skip
     go_wp2_with (fail)
     generalize hW0 : World.alloc (World.alloc (World.alloc wr _) _) _ = W0 at *
     clear hW0
     refine (KA.out _).mono ?_
     rintro e w5 ⟨rfl, hB⟩
     have XI := Lib.hid (XI.out.grow hB)
     have HBW := Lib.hid (HBW.out.trans (hB.mono HBW.out.size))
     have hs2 := Nat.le_trans hs2 hB.size
     have ZR := Lib.hid (own_keptN ZR.out hB)
     clear hB
     clear f0 f1 f2 f3 f4 m0
     have x0 := XI.out.c0
     have x1 := XI.out.c1
     have x2 := XI.out.c2
     dsimp only at x0 x1 x2
     go_wp2_with (fail)
     refine (KA.out _).mono ?_
     rintro e w6 ⟨rfl, hB⟩
     have XI := Lib.hid (XI.out.grow hB)
     have HBW := Lib.hid (HBW.out.trans (hB.mono HBW.out.size))
     have hs2 := Nat.le_trans hs2 hB.size
     have ZR := Lib.hid (own_keptN ZR.out hB)
     clear hB
     clear x0 x1 x2
     have HN := Lib.hid (nxo_own (l := [⟨2, a, lo, hi'⟩]) ZR.out (by simp [maxLen]))
     have HOL2 := Lib.hid (HOL.out.kept HBW.out)
     have HC2 := Lib.hid ((HBW.out.block _ (by omega)).trans HC.out)
     have HA2 := Lib.hid ((HBW.out.block _ (by omega)).trans HA.out)
     have HB2 := Lib.hid (HB.out.trans (HBW.out.mono HB.out.size))
     have hrow := HOL2.out.row
     rw [rowsK_len] at hrow
     have HRW := Lib.hid hrow
     clear hrow
     go_wp2_with (at_builtin; go_loud (refine wpList_append_own_at _ rfl (.tmp 84) (.tmp 86) 36 rfl w.heap.size 54 i1 (.slice none 0 0) 1 24 Try.underlying36 hi1 hy0 hy1 hy2 rfl (by decide) (.slice pv k cv) k us rfl (HRW.out.alloc _) ⟨w6.heap.size, 0, none⟩ 1 1 [.slice (some ⟨wr.heap.size + 2, 0, none⟩) 1 1] rfl rfl (one_newN _ _ _) (one_any _ _ _ _ rfl) (by unfold maxLen; omega) (by omega) (by rw [alloc_sz]; omega) ?_))
     intro v' wT hown' hgrow _ hat
     have bA : Below w6.heap.size w6 (w6.alloc (.cells #[.slice (some ⟨wr.heap.size + 2, 0, none⟩) 1 1] 54)) := (Below.refl _ _).alloc (Nat.le_refl _) _
     have hol8 := ownl_push (HOL2.out.kept bA) (HN.out.grow bA) (by rw [rowsK_len]; exact hown') hgrow
     obtain ⟨p8, c8, rfl⟩ := own_slice hown'
     have hne8 : ∀ g, (Value.slice p8 (k + 1) c8).ownBlock = some g → g ≠ w.heap.size + 2 := fun g e => by
      rcases hat with h | h
      ·rw [h] at e; exact HNE.out g e
      ·rw [h] at e
       simp only [Option.some.injEq] at e
       have h9 : w6.heap.size + 1 = g := by first | exact e | (rw [alloc_sz] at e; exact e)
       omega
     have hc8 := (hgrow.block _ (by rw [alloc_sz]; omega) (fun e => HNE.out _ e.symm rfl)).trans ((bA.block _ (by omega)).trans HC2.out)
     have ha8 := (hgrow.block w.heap.size (by rw [alloc_sz]; omega) (fun e => by
      obtain ⟨cur, hh⟩ : ∃ cur, w6.heap[w.heap.size]? = some (.cells cur 54 (0, 0)) := by
       rcases id HRW.out.2 with ⟨e1, _⟩ | ⟨g, cap, cur, e1, _, hh, _⟩
       ·rw [e1] at e; simp [Value.ownBlock] at e
       ·rw [e1] at e
        simp only [Value.ownBlock, Option.some.injEq] at e
        exact ⟨cur, by rw [e]; exact hh⟩
      rw [HA2.out] at hh
      simp only [Option.some.injEq, Obj.cells.injEq] at hh
      exact absurd hh.2.1 (by decide))).trans ((bA.block _ (by omega)).trans HA2.out)
     have hb8 : Below w.heap.size w wT := Below.grown (HB2.out.trans (bA.mono HB2.out.size)) hgrow (by rw [alloc_sz]; omega) (fun j hj => (HRW.out.lt j hj).1)
     have HOL8 := Lib.hid hol8
     have HNE8 := Lib.hid hne8
     have HC8 := Lib.hid hc8
     have HA8 := Lib.hid ha8
     have HB8 := Lib.hid hb8
     clear hown' hgrow hat bA hol8 hne8 hc8 ha8 hb8
     go_wp2_with (fail)
     go_roundw
     case rel => exact ⟨k + 1, _, by go_num, by omega, by rw [rowsK_snoc, HROW0.out ho]; exact HOL8, HNE8, HC8, HA8, HB8⟩
     case measure => simp [intOf]; omega
    ·have q2 : (op == 2) = false := by simpa using h2
     rw [if_neg h2] at hnn
     subst hnn
     skip
     go_wp2_with (fail)
     generalize hW0 : World.alloc (World.alloc (World.alloc wr _) _) _ = W0 at *
     clear hW0
     refine (KA.out _).mono ?_
     rintro e w5 ⟨rfl, hB⟩
     have XI := Lib.hid (XI.out.grow hB)
     have HBW := Lib.hid (HBW.out.trans (hB.mono HBW.out.size))
     have hs2 := Nat.le_trans hs2 hB.size
     have ZR := Lib.hid (own_keptN ZR.out hB)
     clear hB
     clear f0 f1 f2 f3 f4 m0
     have x0 := XI.out.c0
     have x1 := XI.out.c1
     have x2 := XI.out.c2
     dsimp only at x0 x1 x2
     go_wp2_with (fail)
     refine (KA.out _).mono ?_
     rintro e w6 ⟨rfl, hB⟩
     have XI := Lib.hid (XI.out.grow hB)
     have HBW := Lib.hid (HBW.out.trans (hB.mono HBW.out.size))
     have hs2 := Nat.le_trans hs2 hB.size
     have ZR := Lib.hid (own_keptN ZR.out hB)
     clear hB
     clear x0 x1 x2
     have HN := Lib.hid (nxo_own (l := [⟨op, 0, lo, hi'⟩]) ZR.out (by simp [maxLen]))
     have HOL2 := Lib.hid (HOL.out.kept HBW.out)
     have HC2 := Lib.hid ((HBW.out.block _ (by omega)).trans HC.out)
     have HA2 := Lib.hid ((HBW.out.block _ (by omega)).trans HA.out)
     have HB2 := Lib.hid (HB.out.trans (HBW.out.mono HB.out.size))
     have hrow := HOL2.out.row
     rw [rowsK_len] at hrow
     have HRW := Lib.hid hrow
     clear hrow
     go_wp2_with (at_builtin; go_loud (refine wpList_append_own_at _ rfl (.tmp 84) (.tmp 86) 36 rfl w.heap.size 54 i1 (.slice none 0 0) 1 24 Try.underlying36 hi1 hy0 hy1 hy2 rfl (by decide) (.slice pv k cv) k us rfl (HRW.out.alloc _) ⟨w6.heap.size, 0, none⟩ 1 1 [.slice (some ⟨wr.heap.size + 2, 0, none⟩) 1 1] rfl rfl (one_newN _ _ _) (one_any _ _ _ _ rfl) (by unfold maxLen; omega) (by omega) (by rw [alloc_sz]; omega) ?_))
     intro v' wT hown' hgrow _ hat
     have bA : Below w6.heap.size w6 (w6.alloc (.cells #[.slice (some ⟨wr.heap.size + 2, 0, none⟩) 1 1] 54)) := (Below.refl _ _).alloc (Nat.le_refl _) _
     have hol8 := ownl_push (HOL2.out.kept bA) (HN.out.grow bA) (by rw [rowsK_len]; exact hown') hgrow
     obtain ⟨p8, c8, rfl⟩ := own_slice hown'
     have hne8 : ∀ g, (Value.slice p8 (k + 1) c8).ownBlock = some g → g ≠ w.heap.size + 2 := fun g e => by
      rcases hat with h | h
      ·rw [h] at e; exact HNE.out g e
      ·rw [h] at e
       simp only [Option.some.injEq] at e
       have h9 : w6.heap.size + 1 = g := by first | exact e | (rw [alloc_sz] at e; exact e)
       omega
     have hc8 := (hgrow.block _ (by rw [alloc_sz]; omega) (fun e => HNE.out _ e.symm rfl)).trans ((bA.block _ (by omega)).trans HC2.out)
     have ha8 := (hgrow.block w.heap.size (by rw [alloc_sz]; omega) (fun e => by
      obtain ⟨cur, hh⟩ : ∃ cur, w6.heap[w.heap.size]? = some (.cells cur 54 (0, 0)) := by
       rcases id HRW.out.2 with ⟨e1, _⟩ | ⟨g, cap, cur, e1, _, hh, _⟩
       ·rw [e1] at e; simp [Value.ownBlock] at e
       ·rw [e1] at e
        simp only [Value.ownBlock, Option.some.injEq] at e
        exact ⟨cur, by rw [e]; exact hh⟩
      rw [HA2.out] at hh
      simp only [Option.some.injEq, Obj.cells.injEq] at hh
      exact absurd hh.2.1 (by decide))).trans ((bA.block _ (by omega)).trans HA2.out)
     have hb8 : Below w.heap.size w wT := Below.grown (HB2.out.trans (bA.mono HB2.out.size)) hgrow (by rw [alloc_sz]; omega) (fun j hj => (HRW.out.lt j hj).1)
     have HOL8 := Lib.hid hol8
     have HNE8 := Lib.hid hne8
     have HC8 := Lib.hid hc8
     have HA8 := Lib.hid ha8
     have HB8 := Lib.hid hb8
     clear hown' hgrow hat bA hol8 hne8 hc8 ha8 hb8
     go_wp2_with (fail)
     go_roundw
     case rel => exact ⟨k + 1, _, by go_num, by omega, by rw [rowsK_snoc, HROW0.out ho]; exact HOL8, HNE8, HC8, HA8, HB8⟩
     case measure => simp [intOf]; omega
   ·
    have h2 : op ≠ 2 := by rintro rfl; simp [arI] at har
    have q2 : (op == 2) = false := by simpa using h2
    rw [if_neg h2] at hnn
    subst hnn
    rw [har] at KA
    obtain ⟨g, c', hgc, _⟩ := ownl_at HOL.out (by rw [rowsK_len]; omega)
    obtain rfl : pv = some ⟨g, 0, none⟩ := by simp only [Value.slice.injEq] at hgc; exact hgc.1
    clear hgc
    obtain ⟨aN, haN⟩ : ∃ N : Nat, a = N := ⟨a.toNat, by omega⟩
    subst haN
    obtain ⟨ra, hra⟩ : ∃ r, rowD L aN = r := ⟨_, rfl⟩
    have raat : (rowsK L k)[aN]? = some ra := by rw [rowsK_at L (by omega), hra]
    have ralen : ra.length ≤ 200 := by rw [← hra]; exact row_len HV.out (by omega)
    have ia : (aN : Int) < k := by omega
    have HR1 := Lib.hid (HROW1.out aN ho (by omega))
    rw [hra] at HR1
    by_cases hA0 : 0 < ra.length
    ·have i5 : (ra.length : Int) > 0 := by omega
     by_cases hb200 : 1 + ra.length ≤ 200
     ·skip
      go_wp2_with (fail)
      generalize hW0 : World.alloc (World.alloc (World.alloc wr _) _) _ = W0 at *
      clear hW0
      refine (KA.out _).mono ?_
      rintro e w5 ⟨rfl, hB⟩
      have XI := Lib.hid (XI.out.grow hB)
      have HBW := Lib.hid (HBW.out.trans (hB.mono HBW.out.size))
      have hs2 := Nat.le_trans hs2 hB.size
      have ZR := Lib.hid (own_keptN ZR.out hB)
      clear hB
      clear f0 f1 f2 f3 f4 m0
      have x0 := XI.out.c0
      have x1 := XI.out.c1
      have x2 := XI.out.c2
      dsimp only at x0 x1 x2
      obtain ⟨Ap, Ac, Acell, An⟩ := ownl_cell (HOL.out.kept HBW.out) (raat)
      have Acond : Ap = none → Ac = 0 := by
       obtain ⟨p, c, e, _, h⟩ := An.1.2
       simp only [Value.slice.injEq] at e
       obtain ⟨rfl, _, rfl⟩ := e
       exact h
      go_wp2_with (at_builtin; go_loud (refine wpList_append_nd rfl (.tmp 42) (.tmp 47) rfl (wr.heap.size + 2) (.slice (some ⟨wr.heap.size + 2, 0, none⟩) 1 1) 1 (encN ⟨op, 0, lo, hi'⟩) rfl ZR.out Ap Ac ra rfl An.1.1 Acond (by unfold maxLen; omega) (by omega) (by omega) ?_))
      intro v' w6 hown' hgrow
      have hZ := ZR.out.lt
      have HBW := Lib.hid (Below.grown HBW.out hgrow (by omega) (fun j hj => by have := (ZR.out.lt j hj).1; omega))
      have XI := Lib.hid (isc_at XI.out (hgrow.block _ XI.out.lt (fun e => by have := (ZR.out.lt _ e.symm).1; omega)))
      have hs2 := Nat.le_trans hs2 hgrow.size
      obtain ⟨mp, mc, rfl⟩ := own_slice hown'
      obtain ⟨m, hm⟩ : ∃ mm : Nat, 1 + ra.length = mm := ⟨_, rfl⟩
      rw [hm] at hown' ⊢
      have Hm := Lib.hid hm
      have ZR := Lib.hid hown'
      clear hown' hgrow hZ Acond Acell An hm
      clear x0 x1 x2
      have x0 := XI.out.c0
      have x1 := XI.out.c1
      have x2 := XI.out.c2
      dsimp only at x0 x1 x2
      obtain ⟨Ap, Ac, Acell, An⟩ := ownl_cell (HOL.out.kept HBW.out) (raat)
      have i6 : ¬ (m : Int) > 200 := by have := Hm.out; omega
      go_wp2_with (fail)
      refine (KA.out _).mono ?_
      rintro e w7 ⟨rfl, hB⟩
      have XI := Lib.hid (XI.out.grow hB)
      have HBW := Lib.hid (HBW.out.trans (hB.mono HBW.out.size))
      have hs2 := Nat.le_trans hs2 hB.size
      have ZR := Lib.hid (own_keptN ZR.out hB)
      clear hB
      clear x0 x1 x2
      clear Acell An
      have HN := Lib.hid (nxo_own (l := ⟨op, 0, lo, hi'⟩ :: ra) (by have h := ZR.out; have e1 := Hm.out; have e3 : ((⟨op, 0, lo, hi'⟩ : Nd) :: ra).length = m := (by simp; omega); rw [e3]; simpa [cr] using h) (by simp [maxLen]; omega))
      have HOL2 := Lib.hid (HOL.out.kept HBW.out)
      have HC2 := Lib.hid ((HBW.out.block _ (by omega)).trans HC.out)
      have HA2 := Lib.hid ((HBW.out.block _ (by omega)).trans HA.out)
      have HB2 := Lib.hid (HB.out.trans (HBW.out.mono HB.out.size))
      have hrow := HOL2.out.row
      rw [rowsK_len] at hrow
      have HRW := Lib.hid hrow
      clear hrow
      go_wp2_with (at_builtin; go_loud (refine wpList_append_own_at _ rfl (.tmp 84) (.tmp 86) 36 rfl w.heap.size 54 i1 (.slice none 0 0) 1 24 Try.underlying36 hi1 hy0 hy1 hy2 rfl (by decide) (.slice (some ⟨g, 0, none⟩) k cv) k us rfl (HRW.out.alloc _) ⟨w7.heap.size, 0, none⟩ 1 1 [.slice mp m mc] rfl rfl (one_newN _ _ _) (one_any _ _ _ _ rfl) (by unfold maxLen; omega) (by omega) (by rw [alloc_sz]; omega) ?_))
      intro v' wT hown' hgrow _ hat
      have bA : Below w7.heap.size w7 (w7.alloc (.cells #[.slice mp m mc] 54)) := (Below.refl _ _).alloc (Nat.le_refl _) _
      have hol8 := ownl_push (HOL2.out.kept bA) (HN.out.grow bA) (by rw [rowsK_len]; exact hown') hgrow
      obtain ⟨p8, c8, rfl⟩ := own_slice hown'
      have hne8 : ∀ g, (Value.slice p8 (k + 1) c8).ownBlock = some g → g ≠ w.heap.size + 2 := fun g e => by
       rcases hat with h | h
       ·rw [h] at e; exact HNE.out g e
       ·rw [h] at e
        simp only [Option.some.injEq] at e
        have h9 : w7.heap.size + 1 = g := by first | exact e | (rw [alloc_sz] at e; exact e)
        omega
      have hc8 := (hgrow.block _ (by rw [alloc_sz]; omega) (fun e => HNE.out _ e.symm rfl)).trans ((bA.block _ (by omega)).trans HC2.out)
      have ha8 := (hgrow.block w.heap.size (by rw [alloc_sz]; omega) (fun e => by
       obtain ⟨cur, hh⟩ : ∃ cur, w7.heap[w.heap.size]? = some (.cells cur 54 (0, 0)) := by
        rcases id HRW.out.2 with ⟨e1, _⟩ | ⟨g, cap, cur, e1, _, hh, _⟩
        ·rw [e1] at e; simp [Value.ownBlock] at e
        ·rw [e1] at e
         simp only [Value.ownBlock, Option.some.injEq] at e
         exact ⟨cur, by rw [e]; exact hh⟩
       rw [HA2.out] at hh
       simp only [Option.some.injEq, Obj.cells.injEq] at hh
       exact absurd hh.2.1 (by decide))).trans ((bA.block _ (by omega)).trans HA2.out)
      have hb8 : Below w.heap.size w wT := Below.grown (HB2.out.trans (bA.mono HB2.out.size)) hgrow (by rw [alloc_sz]; omega) (fun j hj => (HRW.out.lt j hj).1)
      have HOL8 := Lib.hid hol8
      have HNE8 := Lib.hid hne8
      have HC8 := Lib.hid hc8
      have HA8 := Lib.hid ha8
      have HB8 := Lib.hid hb8
      clear hown' hgrow hat bA hol8 hne8 hc8 ha8 hb8
      go_wp2_with (fail)
      go_roundw
      case rel => exact ⟨k + 1, _, by go_num, by omega, by rw [rowsK_snoc, HR1.out, if_pos ⟨hA0, hb200⟩]; exact HOL8, HNE8, HC8, HA8, HB8⟩
      case measure => simp [intOf]; omega
     ·skip
      go_wp2_with (fail)
      generalize hW0 : World.alloc (World.alloc (World.alloc wr _) _) _ = W0 at *
      clear hW0
      refine (KA.out _).mono ?_
      rintro e w5 ⟨rfl, hB⟩
      have XI := Lib.hid (XI.out.grow hB)
      have HBW := Lib.hid (HBW.out.trans (hB.mono HBW.out.size))
      have hs2 := Nat.le_trans hs2 hB.size
      have ZR := Lib.hid (own_keptN ZR.out hB)
      clear hB
      clear f0 f1 f2 f3 f4 m0
      have x0 := XI.out.c0
      have x1 := XI.out.c1
      have x2 := XI.out.c2
      dsimp only at x0 x1 x2
      obtain ⟨Ap, Ac, Acell, An⟩ := ownl_cell (HOL.out.kept HBW.out) (raat)
      have Acond : Ap = none → Ac = 0 := by
       obtain ⟨p, c, e, _, h⟩ := An.1.2
       simp only [Value.slice.injEq] at e
       obtain ⟨rfl, _, rfl⟩ := e
       exact h
      go_wp2_with (at_builtin; go_loud (refine wpList_append_nd rfl (.tmp 42) (.tmp 47) rfl (wr.heap.size + 2) (.slice (some ⟨wr.heap.size + 2, 0, none⟩) 1 1) 1 (encN ⟨op, 0, lo, hi'⟩) rfl ZR.out Ap Ac ra rfl An.1.1 Acond (by unfold maxLen; omega) (by omega) (by omega) ?_))
      intro v' w6 hown' hgrow
      have hZ := ZR.out.lt
      have HBW := Lib.hid (Below.grown HBW.out hgrow (by omega) (fun j hj => by have := (ZR.out.lt j hj).1; omega))
      have XI := Lib.hid (isc_at XI.out (hgrow.block _ XI.out.lt (fun e => by have := (ZR.out.lt _ e.symm).1; omega)))
      have hs2 := Nat.le_trans hs2 hgrow.size
      obtain ⟨mp, mc, rfl⟩ := own_slice hown'
      obtain ⟨m, hm⟩ : ∃ mm : Nat, 1 + ra.length = mm := ⟨_, rfl⟩
      rw [hm] at hown' ⊢
      have Hm := Lib.hid hm
      have ZR := Lib.hid hown'
      clear hown' hgrow hZ Acond Acell An hm
      clear x0 x1 x2
      have x0 := XI.out.c0
      have x1 := XI.out.c1
      have x2 := XI.out.c2
      dsimp only at x0 x1 x2
      obtain ⟨Ap, Ac, Acell, An⟩ := ownl_cell (HOL.out.kept HBW.out) (raat)
      have i6 : (m : Int) > 200 := by have := Hm.out; omega
      go_wp2_with (fail)
      refine (KA.out _).mono ?_
      rintro e w7 ⟨rfl, hB⟩
      have XI := Lib.hid (XI.out.grow hB)
      have HBW := Lib.hid (HBW.out.trans (hB.mono HBW.out.size))
      have hs2 := Nat.le_trans hs2 hB.size
      have ZR := Lib.hid (own_keptN ZR.out hB)
      clear hB
      clear x0 x1 x2
      clear Acell An
      have HN := Lib.hid (nxo_nil w7)
      have HOL2 := Lib.hid (HOL.out.kept HBW.out)
      have HC2 := Lib.hid ((HBW.out.block _ (by omega)).trans HC.out)
      have HA2 := Lib.hid ((HBW.out.block _ (by omega)).trans HA.out)
      have HB2 := Lib.hid (HB.out.trans (HBW.out.mono HB.out.size))
      have hrow := HOL2.out.row
      rw [rowsK_len] at hrow
      have HRW := Lib.hid hrow
      clear hrow
      go_wp2_with (at_builtin; go_loud (refine wpList_append_own_at _ rfl (.tmp 84) (.tmp 86) 36 rfl w.heap.size 54 i1 (.slice none 0 0) 1 24 Try.underlying36 hi1 hy0 hy1 hy2 rfl (by decide) (.slice (some ⟨g, 0, none⟩) k cv) k us rfl (HRW.out.alloc _) ⟨w7.heap.size, 0, none⟩ 1 1 [.slice none 0 0] rfl rfl (one_newN _ _ _) (one_any _ _ _ _ rfl) (by unfold maxLen; omega) (by omega) (by rw [alloc_sz]; omega) ?_))
      intro v' wT hown' hgrow _ hat
      have bA : Below w7.heap.size w7 (w7.alloc (.cells #[.slice none 0 0] 54)) := (Below.refl _ _).alloc (Nat.le_refl _) _
      have hol8 := ownl_push (HOL2.out.kept bA) (HN.out.grow bA) (by rw [rowsK_len]; exact hown') hgrow
      obtain ⟨p8, c8, rfl⟩ := own_slice hown'
      have hne8 : ∀ g, (Value.slice p8 (k + 1) c8).ownBlock = some g → g ≠ w.heap.size + 2 := fun g e => by
       rcases hat with h | h
       ·rw [h] at e; exact HNE.out g e
       ·rw [h] at e
        simp only [Option.some.injEq] at e
        have h9 : w7.heap.size + 1 = g := by first | exact e | (rw [alloc_sz] at e; exact e)
        omega
      have hc8 := (hgrow.block _ (by rw [alloc_sz]; omega) (fun e => HNE.out _ e.symm rfl)).trans ((bA.block _ (by omega)).trans HC2.out)
      have ha8 := (hgrow.block w.heap.size (by rw [alloc_sz]; omega) (fun e => by
       obtain ⟨cur, hh⟩ : ∃ cur, w7.heap[w.heap.size]? = some (.cells cur 54 (0, 0)) := by
        rcases id HRW.out.2 with ⟨e1, _⟩ | ⟨g, cap, cur, e1, _, hh, _⟩
        ·rw [e1] at e; simp [Value.ownBlock] at e
        ·rw [e1] at e
         simp only [Value.ownBlock, Option.some.injEq] at e
         exact ⟨cur, by rw [e]; exact hh⟩
       rw [HA2.out] at hh
       simp only [Option.some.injEq, Obj.cells.injEq] at hh
       exact absurd hh.2.1 (by decide))).trans ((bA.block _ (by omega)).trans HA2.out)
      have hb8 : Below w.heap.size w wT := Below.grown (HB2.out.trans (bA.mono HB2.out.size)) hgrow (by rw [alloc_sz]; omega) (fun j hj => (HRW.out.lt j hj).1)
      have HOL8 := Lib.hid hol8
      have HNE8 := Lib.hid hne8
      have HC8 := Lib.hid hc8
      have HA8 := Lib.hid ha8
      have HB8 := Lib.hid hb8
      clear hown' hgrow hat bA hol8 hne8 hc8 ha8 hb8
      go_wp2_with (fail)
      go_roundw
      case rel => exact ⟨k + 1, _, by go_num, by omega, by rw [rowsK_snoc, HR1.out, if_neg (by omega)]; exact HOL8, HNE8, HC8, HA8, HB8⟩
      case measure => simp [intOf]; omega
    ·have i5 : ¬ (ra.length : Int) > 0 := by omega
     go_wp2_with (fail)
     generalize hW0 : World.alloc (World.alloc (World.alloc wr _) _) _ = W0 at *
     clear hW0
     refine (KA.out _).mono ?_
     rintro e w5 ⟨rfl, hB⟩
     have XI := Lib.hid (XI.out.grow hB)
     have HBW := Lib.hid (HBW.out.trans (hB.mono HBW.out.size))
     have hs2 := Nat.le_trans hs2 hB.size
     have ZR := Lib.hid (own_keptN ZR.out hB)
     clear hB
     clear f0 f1 f2 f3 f4 m0
     have x0 := XI.out.c0
     have x1 := XI.out.c1
     have x2 := XI.out.c2
     dsimp only at x0 x1 x2
     obtain ⟨Ap, Ac, Acell, An⟩ := ownl_cell (HOL.out.kept HBW.out) (raat)
     have Acond : Ap = none → Ac = 0 := by
      obtain ⟨p, c, e, _, h⟩ := An.1.2
      simp only [Value.slice.injEq] at e
      obtain ⟨rfl, _, rfl⟩ := e
      exact h
     go_wp2_with (at_builtin; go_loud (refine wpList_append_nd rfl (.tmp 42) (.tmp 47) rfl (wr.heap.size + 2) (.slice (some ⟨wr.heap.size + 2, 0, none⟩) 1 1) 1 (encN ⟨op, 0, lo, hi'⟩) rfl ZR.out Ap Ac ra rfl An.1.1 Acond (by unfold maxLen; omega) (by omega) (by omega) ?_))
     intro v' w6 hown' hgrow
     have hZ := ZR.out.lt
     have HBW := Lib.hid (Below.grown HBW.out hgrow (by omega) (fun j hj => by have := (ZR.out.lt j hj).1; omega))
     have XI := Lib.hid (isc_at XI.out (hgrow.block _ XI.out.lt (fun e => by have := (ZR.out.lt _ e.symm).1; omega)))
     have hs2 := Nat.le_trans hs2 hgrow.size
     obtain ⟨mp, mc, rfl⟩ := own_slice hown'
     obtain ⟨m, hm⟩ : ∃ mm : Nat, 1 + ra.length = mm := ⟨_, rfl⟩
     rw [hm] at hown' ⊢
     have Hm := Lib.hid hm
     have ZR := Lib.hid hown'
     clear hown' hgrow hZ Acond Acell An hm
     clear x0 x1 x2
     have x0 := XI.out.c0
     have x1 := XI.out.c1
     have x2 := XI.out.c2
     dsimp only at x0 x1 x2
     obtain ⟨Ap, Ac, Acell, An⟩ := ownl_cell (HOL.out.kept HBW.out) (raat)
     skip
     go_wp2_with (fail)
     refine (KA.out _).mono ?_
     rintro e w7 ⟨rfl, hB⟩
     have XI := Lib.hid (XI.out.grow hB)
     have HBW := Lib.hid (HBW.out.trans (hB.mono HBW.out.size))
     have hs2 := Nat.le_trans hs2 hB.size
     have ZR := Lib.hid (own_keptN ZR.out hB)
     clear hB
     clear x0 x1 x2
     clear Acell An
     have HN := Lib.hid (nxo_nil w7)
     have HOL2 := Lib.hid (HOL.out.kept HBW.out)
     have HC2 := Lib.hid ((HBW.out.block _ (by omega)).trans HC.out)
     have HA2 := Lib.hid ((HBW.out.block _ (by omega)).trans HA.out)
     have HB2 := Lib.hid (HB.out.trans (HBW.out.mono HB.out.size))
     have hrow := HOL2.out.row
     rw [rowsK_len] at hrow
     have HRW := Lib.hid hrow
     clear hrow
     go_wp2_with (at_builtin; go_loud (refine wpList_append_own_at _ rfl (.tmp 84) (.tmp 86) 36 rfl w.heap.size 54 i1 (.slice none 0 0) 1 24 Try.underlying36 hi1 hy0 hy1 hy2 rfl (by decide) (.slice (some ⟨g, 0, none⟩) k cv) k us rfl (HRW.out.alloc _) ⟨w7.heap.size, 0, none⟩ 1 1 [.slice none 0 0] rfl rfl (one_newN _ _ _) (one_any _ _ _ _ rfl) (by unfold maxLen; omega) (by omega) (by rw [alloc_sz]; omega) ?_))
     intro v' wT hown' hgrow _ hat
     have bA : Below w7.heap.size w7 (w7.alloc (.cells #[.slice none 0 0] 54)) := (Below.refl _ _).alloc (Nat.le_refl _) _
     have hol8 := ownl_push (HOL2.out.kept bA) (HN.out.grow bA) (by rw [rowsK_len]; exact hown') hgrow
     obtain ⟨p8, c8, rfl⟩ := own_slice hown'
     have hne8 : ∀ g, (Value.slice p8 (k + 1) c8).ownBlock = some g → g ≠ w.heap.size + 2 := fun g e => by
      rcases hat with h | h
      ·rw [h] at e; exact HNE.out g e
      ·rw [h] at e
       simp only [Option.some.injEq] at e
       have h9 : w7.heap.size + 1 = g := by first | exact e | (rw [alloc_sz] at e; exact e)
       omega
     have hc8 := (hgrow.block _ (by rw [alloc_sz]; omega) (fun e => HNE.out _ e.symm rfl)).trans ((bA.block _ (by omega)).trans HC2.out)
     have ha8 := (hgrow.block w.heap.size (by rw [alloc_sz]; omega) (fun e => by
      obtain ⟨cur, hh⟩ : ∃ cur, w7.heap[w.heap.size]? = some (.cells cur 54 (0, 0)) := by
       rcases id HRW.out.2 with ⟨e1, _⟩ | ⟨g, cap, cur, e1, _, hh, _⟩
       ·rw [e1] at e; simp [Value.ownBlock] at e
       ·rw [e1] at e
        simp only [Value.ownBlock, Option.some.injEq] at e
        exact ⟨cur, by rw [e]; exact hh⟩
      rw [HA2.out] at hh
      simp only [Option.some.injEq, Obj.cells.injEq] at hh
      exact absurd hh.2.1 (by decide))).trans ((bA.block _ (by omega)).trans HA2.out)
     have hb8 : Below w.heap.size w wT := Below.grown (HB2.out.trans (bA.mono HB2.out.size)) hgrow (by rw [alloc_sz]; omega) (fun j hj => (HRW.out.lt j hj).1)
     have HOL8 := Lib.hid hol8
     have HNE8 := Lib.hid hne8
     have HC8 := Lib.hid hc8
     have HA8 := Lib.hid ha8
     have HB8 := Lib.hid hb8
     clear hown' hgrow hat bA hol8 hne8 hc8 ha8 hb8
     go_wp2_with (fail)
     go_roundw
     case rel => exact ⟨k + 1, _, by go_num, by omega, by rw [rowsK_snoc, HR1.out, if_neg (by omega)]; exact HOL8, HNE8, HC8, HA8, HB8⟩
     case measure => simp [intOf]; omega
   ·
    have h2 : op ≠ 2 := by rintro rfl; simp [arI] at har
    have q2 : (op == 2) = false := by simpa using h2
    rw [if_neg h2] at hnn
    subst hnn
    rw [har] at KA
    obtain ⟨g, c', hgc, _⟩ := ownl_at HOL.out (by rw [rowsK_len]; omega)
    obtain rfl : pv = some ⟨g, 0, none⟩ := by simp only [Value.slice.injEq] at hgc; exact hgc.1
    clear hgc
    obtain ⟨aN, haN⟩ : ∃ N : Nat, a = N := ⟨a.toNat, by omega⟩
    subst haN
    obtain ⟨ra, hra⟩ : ∃ r, rowD L aN = r := ⟨_, rfl⟩
    have raat : (rowsK L k)[aN]? = some ra := by rw [rowsK_at L (by omega), hra]
    have ralen : ra.length ≤ 200 := by rw [← hra]; exact row_len HV.out (by omega)
    have ia : (aN : Int) < k := by omega
    obtain ⟨bN, hbN⟩ : ∃ N : Nat, b = N := ⟨b.toNat, by omega⟩
    subst hbN
    obtain ⟨rb, hrb⟩ : ∃ r, rowD L bN = r := ⟨_, rfl⟩
    have rbat : (rowsK L k)[bN]? = some rb := by rw [rowsK_at L (by omega), hrb]
    have rblen : rb.length ≤ 200 := by rw [← hrb]; exact row_len HV.out (by omega)
    have ib : (bN : Int) < k := by omega
    have HR2 := Lib.hid (HROW2.out aN bN ho (by omega) (by omega))
    rw [hra, hrb] at HR2
    by_cases hA0 : 0 < ra.length
    ·have i5 : (ra.length : Int) > 0 := by omega
     by_cases hB0 : 0 < rb.length
     ·have i7 : (rb.length : Int) > 0 := by omega
      by_cases hb200 : 1 + ra.length + rb.length ≤ 200
      ·skip
       go_wp2_with (fail)
       generalize hW0 : World.alloc (World.alloc (World.alloc wr _) _) _ = W0 at *
       clear hW0
       refine (KA.out _).mono ?_
       rintro e w5 ⟨rfl, hB⟩
       have XI := Lib.hid (XI.out.grow hB)
       have HBW := Lib.hid (HBW.out.trans (hB.mono HBW.out.size))
       have hs2 := Nat.le_trans hs2 hB.size
       have ZR := Lib.hid (own_keptN ZR.out hB)
       clear hB
       clear f0 f1 f2 f3 f4 m0
       have x0 := XI.out.c0
       have x1 := XI.out.c1
       have x2 := XI.out.c2
       dsimp only at x0 x1 x2
       obtain ⟨Ap, Ac, Acell, An⟩ := ownl_cell (HOL.out.kept HBW.out) (raat)
       have Acond : Ap = none → Ac = 0 := by
        obtain ⟨p, c, e, _, h⟩ := An.1.2
        simp only [Value.slice.injEq] at e
        obtain ⟨rfl, _, rfl⟩ := e
        exact h
       go_wp2_with (at_builtin; go_loud (refine wpList_append_nd rfl (.tmp 42) (.tmp 47) rfl (wr.heap.size + 2) (.slice (some ⟨wr.heap.size + 2, 0, none⟩) 1 1) 1 (encN ⟨op, 0, lo, hi'⟩) rfl ZR.out Ap Ac ra rfl An.1.1 Acond (by unfold maxLen; omega) (by omega) (by omega) ?_))
       intro v' w6 hown' hgrow
       have hZ := ZR.out.lt
       have HBW := Lib.hid (Below.grown HBW.out hgrow (by omega) (fun j hj => by have := (ZR.out.lt j hj).1; omega))
       have XI := Lib.hid (isc_at XI.out (hgrow.block _ XI.out.lt (fun e => by have := (ZR.out.lt _ e.symm).1; omega)))
       have hs2 := Nat.le_trans hs2 hgrow.size
       obtain ⟨mp, mc, rfl⟩ := own_slice hown'
       obtain ⟨m, hm⟩ : ∃ mm : Nat, 1 + ra.length = mm := ⟨_, rfl⟩
       rw [hm] at hown' ⊢
       have Hm := Lib.hid hm
       have ZR := Lib.hid hown'
       clear hown' hgrow hZ Acond Acell An hm
       clear x0 x1 x2
       have x0 := XI.out.c0
       have x1 := XI.out.c1
       have x2 := XI.out.c2
       dsimp only at x0 x1 x2
       obtain ⟨Ap, Ac, Acell, An⟩ := ownl_cell (HOL.out.kept HBW.out) (raat)
       go_wp2_with (fail)
       refine (KA.out _).mono ?_
       rintro e w7 ⟨rfl, hB⟩
       have XI := Lib.hid (XI.out.grow hB)
       have HBW := Lib.hid (HBW.out.trans (hB.mono HBW.out.size))
       have hs2 := Nat.le_trans hs2 hB.size
       have ZR := Lib.hid (own_keptN ZR.out hB)
       clear hB
       clear x0 x1 x2
       clear Acell An
       have x0 := XI.out.c0
       have x1 := XI.out.c1
       have x2 := XI.out.c2
       dsimp only at x0 x1 x2
       obtain ⟨Bp, Bc, Bcell, Bn⟩ := ownl_cell (HOL.out.kept HBW.out) (rbat)
       have hmb : m ≤ 201 := by have := Hm.out; omega
       have Bcond : Bp = none → Bc = 0 := by
        obtain ⟨p, c, e, _, h⟩ := Bn.1.2
        simp only [Value.slice.injEq] at e
        obtain ⟨rfl, _, rfl⟩ := e
        exact h
       go_wp2_with (at_builtin; go_loud (refine wpList_append_nd rfl (.tmp 60) (.tmp 65) rfl (wr.heap.size + 2) (.slice mp m mc) m (encN ⟨op, 0, lo, hi'⟩ ++ cr encN ra) rfl ZR.out Bp Bc rb rfl Bn.1.1 Bcond (by unfold maxLen; omega) (by omega) (by omega) ?_))
       intro v' w8 hown' hgrow
       have hZ := ZR.out.lt
       have HBW := Lib.hid (Below.grown HBW.out hgrow (by omega) (fun j hj => by have := (ZR.out.lt j hj).1; omega))
       have XI := Lib.hid (isc_at XI.out (hgrow.block _ XI.out.lt (fun e => by have := (ZR.out.lt _ e.symm).1; omega)))
       have hs2 := Nat.le_trans hs2 hgrow.size
       obtain ⟨qp, qc, rfl⟩ := own_slice hown'
       obtain ⟨q, hq⟩ : ∃ mm : Nat, m + rb.length = mm := ⟨_, rfl⟩
       rw [hq] at hown' ⊢
       have Hq := Lib.hid hq
       have ZR := Lib.hid hown'
       clear hown' hgrow hZ Bcond Bcell Bn hq
       clear x0 x1 x2
       have x0 := XI.out.c0
       have x1 := XI.out.c1
       have x2 := XI.out.c2
       dsimp only at x0 x1 x2
       obtain ⟨Bp, Bc, Bcell, Bn⟩ := ownl_cell (HOL.out.kept HBW.out) (rbat)
       have i6 : ¬ (q : Int) > 200 := by have := Hm.out; have := Hq.out; omega
       have HN := Lib.hid (nxo_own (l := ⟨op, 0, lo, hi'⟩ :: (ra ++ rb)) (by have h := ZR.out; have e1 := Hm.out; have e2 := Hq.out; have e3 : ((⟨op, 0, lo, hi'⟩ : Nd) :: (ra ++ rb)).length = q := (by simp; omega); rw [e3]; simpa [cr] using h) (by simp [maxLen]; omega))
       have HOL2 := Lib.hid (HOL.out.kept HBW.out)
       have HC2 := Lib.hid ((HBW.out.block _ (by omega)).trans HC.out)
       have HA2 := Lib.hid ((HBW.out.block _ (by omega)).trans HA.out)
       have HB2 := Lib.hid (HB.out.trans (HBW.out.mono HB.out.size))
       have hrow := HOL2.out.row
       rw [rowsK_len] at hrow
       have HRW := Lib.hid hrow
       clear hrow
       go_wp2_with (at_builtin; go_loud (refine wpList_append_own_at _ rfl (.tmp 84) (.tmp 86) 36 rfl w.heap.size 54 i1 (.slice none 0 0) 1 24 Try.underlying36 hi1 hy0 hy1 hy2 rfl (by decide) (.slice (some ⟨g, 0, none⟩) k cv) k us rfl (HRW.out.alloc _) ⟨w8.heap.size, 0, none⟩ 1 1 [.slice qp q qc] rfl rfl (one_newN _ _ _) (one_any _ _ _ _ rfl) (by unfold maxLen; omega) (by omega) (by rw [alloc_sz]; omega) ?_))
       intro v' wT hown' hgrow _ hat
       have bA : Below w8.heap.size w8 (w8.alloc (.cells #[.slice qp q qc] 54)) := (Below.refl _ _).alloc (Nat.le_refl _) _
       have hol8 := ownl_push (HOL2.out.kept bA) (HN.out.grow bA) (by rw [rowsK_len]; exact hown') hgrow
       obtain ⟨p8, c8, rfl⟩ := own_slice hown'
       have hne8 : ∀ g, (Value.slice p8 (k + 1) c8).ownBlock = some g → g ≠ w.heap.size + 2 := fun g e => by
        rcases hat with h | h
        ·rw [h] at e; exact HNE.out g e
        ·rw [h] at e
         simp only [Option.some.injEq] at e
         have h9 : w8.heap.size + 1 = g := by first | exact e | (rw [alloc_sz] at e; exact e)
         omega
       have hc8 := (hgrow.block _ (by rw [alloc_sz]; omega) (fun e => HNE.out _ e.symm rfl)).trans ((bA.block _ (by omega)).trans HC2.out)
       have ha8 := (hgrow.block w.heap.size (by rw [alloc_sz]; omega) (fun e => by
        obtain ⟨cur, hh⟩ : ∃ cur, w8.heap[w.heap.size]? = some (.cells cur 54 (0, 0)) := by
         rcases id HRW.out.2 with ⟨e1, _⟩ | ⟨g, cap, cur, e1, _, hh, _⟩
         ·rw [e1] at e; simp [Value.ownBlock] at e
         ·rw [e1] at e
          simp only [Value.ownBlock, Option.some.injEq] at e
          exact ⟨cur, by rw [e]; exact hh⟩
        rw [HA2.out] at hh
        simp only [Option.some.injEq, Obj.cells.injEq] at hh
        exact absurd hh.2.1 (by decide))).trans ((bA.block _ (by omega)).trans HA2.out)
       have hb8 : Below w.heap.size w wT := Below.grown (HB2.out.trans (bA.mono HB2.out.size)) hgrow (by rw [alloc_sz]; omega) (fun j hj => (HRW.out.lt j hj).1)
       have HOL8 := Lib.hid hol8
       have HNE8 := Lib.hid hne8
       have HC8 := Lib.hid hc8
       have HA8 := Lib.hid ha8
       have HB8 := Lib.hid hb8
       clear hown' hgrow hat bA hol8 hne8 hc8 ha8 hb8
       go_wp2_with (fail)
       go_roundw
       case rel => exact ⟨k + 1, _, by go_num, by omega, by rw [rowsK_snoc, HR2.out, if_pos ⟨hA0, hB0, hb200⟩]; exact HOL8, HNE8, HC8, HA8, HB8⟩
       case measure => simp [intOf]; omega
      ·skip
       go_wp2_with (fail)
       generalize hW0 : World.alloc (World.alloc (World.alloc wr _) _) _ = W0 at *
       clear hW0
       refine (KA.out _).mono ?_
       rintro e w5 ⟨rfl, hB⟩
       have XI := Lib.hid (XI.out.grow hB)
       have HBW := Lib.hid (HBW.out.trans (hB.mono HBW.out.size))
       have hs2 := Nat.le_trans hs2 hB.size
       have ZR := Lib.hid (own_keptN ZR.out hB)
       clear hB
       clear f0 f1 f2 f3 f4 m0
       have x0 := XI.out.c0
       have x1 := XI.out.c1
       have x2 := XI.out.c2
       dsimp only at x0 x1 x2
       obtain ⟨Ap, Ac, Acell, An⟩ := ownl_cell (HOL.out.kept HBW.out) (raat)
       have Acond : Ap = none → Ac = 0 := by
        obtain ⟨p, c, e, _, h⟩ := An.1.2
        simp only [Value.slice.injEq] at e
        obtain ⟨rfl, _, rfl⟩ := e
        exact h
       go_wp2_with (at_builtin; go_loud (refine wpList_append_nd rfl (.tmp 42) (.tmp 47) rfl (wr.heap.size + 2) (.slice (some ⟨wr.heap.size + 2, 0, none⟩) 1 1) 1 (encN ⟨op, 0, lo, hi'⟩) rfl ZR.out Ap Ac ra rfl An.1.1 Acond (by unfold maxLen; omega) (by omega) (by omega) ?_))
       intro v' w6 hown' hgrow
       have hZ := ZR.out.lt
       have HBW := Lib.hid (Below.grown HBW.out hgrow (by omega) (fun j hj => by have := (ZR.out.lt j hj).1; omega))
       have XI := Lib.hid (isc_at XI.out (hgrow.block _ XI.out.lt (fun e => by have := (ZR.out.lt _ e.symm).1; omega)))
       have hs2 := Nat.le_trans hs2 hgrow.size
       obtain ⟨mp, mc, rfl⟩ := own_slice hown'
       obtain ⟨m, hm⟩ : ∃ mm : Nat, 1 + ra.length = mm := ⟨_, rfl⟩
       rw [hm] at hown' ⊢
       have Hm := Lib.hid hm
       have ZR := Lib.hid hown'
       clear hown' hgrow hZ Acond Acell An hm
       clear x0 x1 x2
       have x0 := XI.out.c0
       have x1 := XI.out.c1
       have x2 := XI.out.c2
       dsimp only at x0 x1 x2
       obtain ⟨Ap, Ac, Acell, An⟩ := ownl_cell (HOL.out.kept HBW.out) (raat)
       go_wp2_with (fail)
       refine (KA.out _).mono ?_
       rintro e w7 ⟨rfl, hB⟩
       have XI := Lib.hid (XI.out.grow hB)
       have HBW := Lib.hid (HBW.out.trans (hB.mono HBW.out.size))
       have hs2 := Nat.le_trans hs2 hB.size
       have ZR := Lib.hid (own_keptN ZR.out hB)
       clear hB
       clear x0 x1 x2
       clear Acell An
       have x0 := XI.out.c0
       have x1 := XI.out.c1
       have x2 := XI.out.c2
       dsimp only at x0 x1 x2
       obtain ⟨Bp, Bc, Bcell, Bn⟩ := ownl_cell (HOL.out.kept HBW.out) (rbat)
       have hmb : m ≤ 201 := by have := Hm.out; omega
       have Bcond : Bp = none → Bc = 0 := by
        obtain ⟨p, c, e, _, h⟩ := Bn.1.2
        simp only [Value.slice.injEq] at e
        obtain ⟨rfl, _, rfl⟩ := e
        exact h
       go_wp2_with (at_builtin; go_loud (refine wpList_append_nd rfl (.tmp 60) (.tmp 65) rfl (wr.heap.size + 2) (.slice mp m mc) m (encN ⟨op, 0, lo, hi'⟩ ++ cr encN ra) rfl ZR.out Bp Bc rb rfl Bn.1.1 Bcond (by unfold maxLen; omega) (by omega) (by omega) ?_))
       intro v' w8 hown' hgrow
       have hZ := ZR.out.lt
       have HBW := Lib.hid (Below.grown HBW.out hgrow (by omega) (fun j hj => by have := (ZR.out.lt j hj).1; omega))
       have XI := Lib.hid (isc_at XI.out (hgrow.block _ XI.out.lt (fun e => by have := (ZR.out.lt _ e.symm).1; omega)))
       have hs2 := Nat.le_trans hs2 hgrow.size
       obtain ⟨qp, qc, rfl⟩ := own_slice hown'
       obtain ⟨q, hq⟩ : ∃ mm : Nat, m + rb.length = mm := ⟨_, rfl⟩
       rw [hq] at hown' ⊢
       have Hq := Lib.hid hq
       have ZR := Lib.hid hown'
       clear hown' hgrow hZ Bcond Bcell Bn hq
       clear x0 x1 x2
       have x0 := XI.out.c0
       have x1 := XI.out.c1
       have x2 := XI.out.c2
       dsimp only at x0 x1 x2
       obtain ⟨Bp, Bc, Bcell, Bn⟩ := ownl_cell (HOL.out.kept HBW.out) (rbat)
       have i6 : (q : Int) > 200 := by have := Hm.out; have := Hq.out; omega
       have HN := Lib.hid (nxo_nil w8)
       have HOL2 := Lib.hid (HOL.out.kept HBW.out)
       have HC2 := Lib.hid ((HBW.out.block _ (by omega)).trans HC.out)
       have HA2 := Lib.hid ((HBW.out.block _ (by omega)).trans HA.out)
       have HB2 := Lib.hid (HB.out.trans (HBW.out.mono HB.out.size))
       have hrow := HOL2.out.row
       rw [rowsK_len] at hrow
       have HRW := Lib.hid hrow
       clear hrow
       go_wp2_with (at_builtin; go_loud (refine wpList_append_own_at _ rfl (.tmp 84) (.tmp 86) 36 rfl w.heap.size 54 i1 (.slice none 0 0) 1 24 Try.underlying36 hi1 hy0 hy1 hy2 rfl (by decide) (.slice (some ⟨g, 0, none⟩) k cv) k us rfl (HRW.out.alloc _) ⟨w8.heap.size, 0, none⟩ 1 1 [.slice none 0 0] rfl rfl (one_newN _ _ _) (one_any _ _ _ _ rfl) (by unfold maxLen; omega) (by omega) (by rw [alloc_sz]; omega) ?_))
       intro v' wT hown' hgrow _ hat
       have bA : Below w8.heap.size w8 (w8.alloc (.cells #[.slice none 0 0] 54)) := (Below.refl _ _).alloc (Nat.le_refl _) _
       have hol8 := ownl_push (HOL2.out.kept bA) (HN.out.grow bA) (by rw [rowsK_len]; exact hown') hgrow
       obtain ⟨p8, c8, rfl⟩ := own_slice hown'
       have hne8 : ∀ g, (Value.slice p8 (k + 1) c8).ownBlock = some g → g ≠ w.heap.size + 2 := fun g e => by
        rcases hat with h | h
        ·rw [h] at e; exact HNE.out g e
        ·rw [h] at e
         simp only [Option.some.injEq] at e
         have h9 : w8.heap.size + 1 = g := by first | exact e | (rw [alloc_sz] at e; exact e)
         omega
       have hc8 := (hgrow.block _ (by rw [alloc_sz]; omega) (fun e => HNE.out _ e.symm rfl)).trans ((bA.block _ (by omega)).trans HC2.out)
       have ha8 := (hgrow.block w.heap.size (by rw [alloc_sz]; omega) (fun e => by
        obtain ⟨cur, hh⟩ : ∃ cur, w8.heap[w.heap.size]? = some (.cells cur 54 (0, 0)) := by
         rcases id HRW.out.2 with ⟨e1, _⟩ | ⟨g, cap, cur, e1, _, hh, _⟩
         ·rw [e1] at e; simp [Value.ownBlock] at e
         ·rw [e1] at e
          simp only [Value.ownBlock, Option.some.injEq] at e
          exact ⟨cur, by rw [e]; exact hh⟩
        rw [HA2.out] at hh
        simp only [Option.some.injEq, Obj.cells.injEq] at hh
        exact absurd hh.2.1 (by decide))).trans ((bA.block _ (by omega)).trans HA2.out)
       have hb8 : Below w.heap.size w wT := Below.grown (HB2.out.trans (bA.mono HB2.out.size)) hgrow (by rw [alloc_sz]; omega) (fun j hj => (HRW.out.lt j hj).1)
       have HOL8 := Lib.hid hol8
       have HNE8 := Lib.hid hne8
       have HC8 := Lib.hid hc8
       have HA8 := Lib.hid ha8
       have HB8 := Lib.hid hb8
       clear hown' hgrow hat bA hol8 hne8 hc8 ha8 hb8
       go_wp2_with (fail)
       go_roundw
       case rel => exact ⟨k + 1, _, by go_num, by omega, by rw [rowsK_snoc, HR2.out, if_neg (by omega)]; exact HOL8, HNE8, HC8, HA8, HB8⟩
       case measure => simp [intOf]; omega
     ·have i7 : ¬ (rb.length : Int) > 0 := by omega
      go_wp2_with (fail)
      generalize hW0 : World.alloc (World.alloc (World.alloc wr _) _) _ = W0 at *
      clear hW0
      refine (KA.out _).mono ?_
      rintro e w5 ⟨rfl, hB⟩
      have XI := Lib.hid (XI.out.grow hB)
      have HBW := Lib.hid (HBW.out.trans (hB.mono HBW.out.size))
      have hs2 := Nat.le_trans hs2 hB.size
      have ZR := Lib.hid (own_keptN ZR.out hB)
      clear hB
      clear f0 f1 f2 f3 f4 m0
      have x0 := XI.out.c0
      have x1 := XI.out.c1
      have x2 := XI.out.c2
      dsimp only at x0 x1 x2
      obtain ⟨Ap, Ac, Acell, An⟩ := ownl_cell (HOL.out.kept HBW.out) (raat)
      have Acond : Ap = none → Ac = 0 := by
       obtain ⟨p, c, e, _, h⟩ := An.1.2
       simp only [Value.slice.injEq] at e
       obtain ⟨rfl, _, rfl⟩ := e
       exact h
      go_wp2_with (at_builtin; go_loud (refine wpList_append_nd rfl (.tmp 42) (.tmp 47) rfl (wr.heap.size + 2) (.slice (some ⟨wr.heap.size + 2, 0, none⟩) 1 1) 1 (encN ⟨op, 0, lo, hi'⟩) rfl ZR.out Ap Ac ra rfl An.1.1 Acond (by unfold maxLen; omega) (by omega) (by omega) ?_))
      intro v' w6 hown' hgrow
      have hZ := ZR.out.lt
      have HBW := Lib.hid (Below.grown HBW.out hgrow (by omega) (fun j hj => by have := (ZR.out.lt j hj).1; omega))
      have XI := Lib.hid (isc_at XI.out (hgrow.block _ XI.out.lt (fun e => by have := (ZR.out.lt _ e.symm).1; omega)))
      have hs2 := Nat.le_trans hs2 hgrow.size
      obtain ⟨mp, mc, rfl⟩ := own_slice hown'
      obtain ⟨m, hm⟩ : ∃ mm : Nat, 1 + ra.length = mm := ⟨_, rfl⟩
      rw [hm] at hown' ⊢
      have Hm := Lib.hid hm
      have ZR := Lib.hid hown'
      clear hown' hgrow hZ Acond Acell An hm
      clear x0 x1 x2
      have x0 := XI.out.c0
      have x1 := XI.out.c1
      have x2 := XI.out.c2
      dsimp only at x0 x1 x2
      obtain ⟨Ap, Ac, Acell, An⟩ := ownl_cell (HOL.out.kept HBW.out) (raat)
      go_wp2_with (fail)
      refine (KA.out _).mono ?_
      rintro e w7 ⟨rfl, hB⟩
      have XI := Lib.hid (XI.out.grow hB)
      have HBW := Lib.hid (HBW.out.trans (hB.mono HBW.out.size))
      have hs2 := Nat.le_trans hs2 hB.size
      have ZR := Lib.hid (own_keptN ZR.out hB)
      clear hB
      clear x0 x1 x2
      clear Acell An
      have x0 := XI.out.c0
      have x1 := XI.out.c1
      have x2 := XI.out.c2
      dsimp only at x0 x1 x2
      obtain ⟨Bp, Bc, Bcell, Bn⟩ := ownl_cell (HOL.out.kept HBW.out) (rbat)
      have hmb : m ≤ 201 := by have := Hm.out; omega
      have Bcond : Bp = none → Bc = 0 := by
       obtain ⟨p, c, e, _, h⟩ := Bn.1.2
       simp only [Value.slice.injEq] at e
       obtain ⟨rfl, _, rfl⟩ := e
       exact h
      go_wp2_with (at_builtin; go_loud (refine wpList_append_nd rfl (.tmp 60) (.tmp 65) rfl (wr.heap.size + 2) (.slice mp m mc) m (encN ⟨op, 0, lo, hi'⟩ ++ cr encN ra) rfl ZR.out Bp Bc rb rfl Bn.1.1 Bcond (by unfold maxLen; omega) (by omega) (by omega) ?_))
      intro v' w8 hown' hgrow
      have hZ := ZR.out.lt
      have HBW := Lib.hid (Below.grown HBW.out hgrow (by omega) (fun j hj => by have := (ZR.out.lt j hj).1; omega))
      have XI := Lib.hid (isc_at XI.out (hgrow.block _ XI.out.lt (fun e => by have := (ZR.out.lt _ e.symm).1; omega)))
      have hs2 := Nat.le_trans hs2 hgrow.size
      obtain ⟨qp, qc, rfl⟩ := own_slice hown'
      obtain ⟨q, hq⟩ : ∃ mm : Nat, m + rb.length = mm := ⟨_, rfl⟩
      rw [hq] at hown' ⊢
      have Hq := Lib.hid hq
      have ZR := Lib.hid hown'
      clear hown' hgrow hZ Bcond Bcell Bn hq
      clear x0 x1 x2
      have x0 := XI.out.c0
      have x1 := XI.out.c1
      have x2 := XI.out.c2
      dsimp only at x0 x1 x2
      obtain ⟨Bp, Bc, Bcell, Bn⟩ := ownl_cell (HOL.out.kept HBW.out) (rbat)
      skip
      have HN := Lib.hid (nxo_nil w8)
      have HOL2 := Lib.hid (HOL.out.kept HBW.out)
      have HC2 := Lib.hid ((HBW.out.block _ (by omega)).trans HC.out)
      have HA2 := Lib.hid ((HBW.out.block _ (by omega)).trans HA.out)
      have HB2 := Lib.hid (HB.out.trans (HBW.out.mono HB.out.size))
      have hrow := HOL2.out.row
      rw [rowsK_len] at hrow
      have HRW := Lib.hid hrow
      clear hrow
      go_wp2_with (at_builtin; go_loud (refine wpList_append_own_at _ rfl (.tmp 84) (.tmp 86) 36 rfl w.heap.size 54 i1 (.slice none 0 0) 1 24 Try.underlying36 hi1 hy0 hy1 hy2 rfl (by decide) (.slice (some ⟨g, 0, none⟩) k cv) k us rfl (HRW.out.alloc _) ⟨w8.heap.size, 0, none⟩ 1 1 [.slice none 0 0] rfl rfl (one_newN _ _ _) (one_any _ _ _ _ rfl) (by unfold maxLen; omega) (by omega) (by rw [alloc_sz]; omega) ?_))
      intro v' wT hown' hgrow _ hat
      have bA : Below w8.heap.size w8 (w8.alloc (.cells #[.slice none 0 0] 54)) := (Below.refl _ _).alloc (Nat.le_refl _) _
      have hol8 := ownl_push (HOL2.out.kept bA) (HN.out.grow bA) (by rw [rowsK_len]; exact hown') hgrow
      obtain ⟨p8, c8, rfl⟩ := own_slice hown'
      have hne8 : ∀ g, (Value.slice p8 (k + 1) c8).ownBlock = some g → g ≠ w.heap.size + 2 := fun g e => by
       rcases hat with h | h
       ·rw [h] at e; exact HNE.out g e
       ·rw [h] at e
        simp only [Option.some.injEq] at e
        have h9 : w8.heap.size + 1 = g := by first | exact e | (rw [alloc_sz] at e; exact e)
        omega
      have hc8 := (hgrow.block _ (by rw [alloc_sz]; omega) (fun e => HNE.out _ e.symm rfl)).trans ((bA.block _ (by omega)).trans HC2.out)
      have ha8 := (hgrow.block w.heap.size (by rw [alloc_sz]; omega) (fun e => by
       obtain ⟨cur, hh⟩ : ∃ cur, w8.heap[w.heap.size]? = some (.cells cur 54 (0, 0)) := by
        rcases id HRW.out.2 with ⟨e1, _⟩ | ⟨g, cap, cur, e1, _, hh, _⟩
        ·rw [e1] at e; simp [Value.ownBlock] at e
        ·rw [e1] at e
         simp only [Value.ownBlock, Option.some.injEq] at e
         exact ⟨cur, by rw [e]; exact hh⟩
       rw [HA2.out] at hh
       simp only [Option.some.injEq, Obj.cells.injEq] at hh
       exact absurd hh.2.1 (by decide))).trans ((bA.block _ (by omega)).trans HA2.out)
      have hb8 : Below w.heap.size w wT := Below.grown (HB2.out.trans (bA.mono HB2.out.size)) hgrow (by rw [alloc_sz]; omega) (fun j hj => (HRW.out.lt j hj).1)
      have HOL8 := Lib.hid hol8
      have HNE8 := Lib.hid hne8
      have HC8 := Lib.hid hc8
      have HA8 := Lib.hid ha8
      have HB8 := Lib.hid hb8
      clear hown' hgrow hat bA hol8 hne8 hc8 ha8 hb8
      go_wp2_with (fail)
      go_roundw
      case rel => exact ⟨k + 1, _, by go_num, by omega, by rw [rowsK_snoc, HR2.out, if_neg (by omega)]; exact HOL8, HNE8, HC8, HA8, HB8⟩
      case measure => simp [intOf]; omega
    ·have i5 : ¬ (ra.length : Int) > 0 := by omega
     go_wp2_with (fail)
     generalize hW0 : World.alloc (World.alloc (World.alloc wr _) _) _ = W0 at *
     clear hW0
     refine (KA.out _).mono ?_
     rintro e w5 ⟨rfl, hB⟩
     have XI := Lib.hid (XI.out.grow hB)
     have HBW := Lib.hid (HBW.out.trans (hB.mono HBW.out.size))
     have hs2 := Nat.le_trans hs2 hB.size
     have ZR := Lib.hid (own_keptN ZR.out hB)
     clear hB
     clear f0 f1 f2 f3 f4 m0
     have x0 := XI.out.c0
     have x1 := XI.out.c1
     have x2 := XI.out.c2
     dsimp only at x0 x1 x2
     obtain ⟨Ap, Ac, Acell, An⟩ := ownl_cell (HOL.out.kept HBW.out) (raat)
     have Acond : Ap = none → Ac = 0 := by
      obtain ⟨p, c, e, _, h⟩ := An.1.2
      simp only [Value.slice.injEq] at e
      obtain ⟨rfl, _, rfl⟩ := e
      exact h
     go_wp2_with (at_builtin; go_loud (refine wpList_append_nd rfl (.tmp 42) (.tmp 47) rfl (wr.heap.size + 2) (.slice (some ⟨wr.heap.size + 2, 0, none⟩) 1 1) 1 (encN ⟨op, 0, lo, hi'⟩) rfl ZR.out Ap Ac ra rfl An.1.1 Acond (by unfold maxLen; omega) (by omega) (by omega) ?_))
     intro v' w6 hown' hgrow
     have hZ := ZR.out.lt
     have HBW := Lib.hid (Below.grown HBW.out hgrow (by omega) (fun j hj => by have := (ZR.out.lt j hj).1; omega))
     have XI := Lib.hid (isc_at XI.out (hgrow.block _ XI.out.lt (fun e => by have := (ZR.out.lt _ e.symm).1; omega)))
     have hs2 := Nat.le_trans hs2 hgrow.size
     obtain ⟨mp, mc, rfl⟩ := own_slice hown'
     obtain ⟨m, hm⟩ : ∃ mm : Nat, 1 + ra.length = mm := ⟨_, rfl⟩
     rw [hm] at hown' ⊢
     have Hm := Lib.hid hm
     have ZR := Lib.hid hown'
     clear hown' hgrow hZ Acond Acell An hm
     clear x0 x1 x2
     have x0 := XI.out.c0
     have x1 := XI.out.c1
     have x2 := XI.out.c2
     dsimp only at x0 x1 x2
     obtain ⟨Ap, Ac, Acell, An⟩ := ownl_cell (HOL.out.kept HBW.out) (raat)
     go_wp2_with (fail)
     refine (KA.out _).mono ?_
     rintro e w7 ⟨rfl, hB⟩
     have XI := Lib.hid (XI.out.grow hB)
     have HBW := Lib.hid (HBW.out.trans (hB.mono HBW.out.size))
     have hs2 := Nat.le_trans hs2 hB.size
     have ZR := Lib.hid (own_keptN ZR.out hB)
     clear hB
     clear x0 x1 x2
     clear Acell An
     have x0 := XI.out.c0
     have x1 := XI.out.c1
     have x2 := XI.out.c2
     dsimp only at x0 x1 x2
     obtain ⟨Bp, Bc, Bcell, Bn⟩ := ownl_cell (HOL.out.kept HBW.out) (rbat)
     have hmb : m ≤ 201 := by have := Hm.out; omega
     have Bcond : Bp = none → Bc = 0 := by
      obtain ⟨p, c, e, _, h⟩ := Bn.1.2
      simp only [Value.slice.injEq] at e
      obtain ⟨rfl, _, rfl⟩ := e
      exact h
     go_wp2_with (at_builtin; go_loud (refine wpList_append_nd rfl (.tmp 60) (.tmp 65) rfl (wr.heap.size + 2) (.slice mp m mc) m (encN ⟨op, 0, lo, hi'⟩ ++ cr encN ra) rfl ZR.out Bp Bc rb rfl Bn.1.1 Bcond (by unfold maxLen; omega) (by omega) (by omega) ?_))
     intro v' w8 hown' hgrow
     have hZ := ZR.out.lt
     have HBW := Lib.hid (Below.grown HBW.out hgrow (by omega) (fun j hj => by have := (ZR.out.lt j hj).1; omega))
     have XI := Lib.hid (isc_at XI.out (hgrow.block _ XI.out.lt (fun e => by have := (ZR.out.lt _ e.symm).1; omega)))
     have hs2 := Nat.le_trans hs2 hgrow.size
     obtain ⟨qp, qc, rfl⟩ := own_slice hown'
     obtain ⟨q, hq⟩ : ∃ mm : Nat, m + rb.length = mm := ⟨_, rfl⟩
     rw [hq] at hown' ⊢
     have Hq := Lib.hid hq
     have ZR := Lib.hid hown'
     clear hown' hgrow hZ Bcond Bcell Bn hq
     clear x0 x1 x2
     have x0 := XI.out.c0
     have x1 := XI.out.c1
     have x2 := XI.out.c2
     dsimp only at x0 x1 x2
     obtain ⟨Bp, Bc, Bcell, Bn⟩ := ownl_cell (HOL.out.kept HBW.out) (rbat)
     skip
     have HN := Lib.hid (nxo_nil w8)
     have HOL2 := Lib.hid (HOL.out.kept HBW.out)
     have HC2 := Lib.hid ((HBW.out.block _ (by omega)).trans HC.out)
     have HA2 := Lib.hid ((HBW.out.block _ (by omega)).trans HA.out)
     have HB2 := Lib.hid (HB.out.trans (HBW.out.mono HB.out.size))
     have hrow := HOL2.out.row
     rw [rowsK_len] at hrow
     have HRW := Lib.hid hrow
     clear hrow
     go_wp2_with (at_builtin; go_loud (refine wpList_append_own_at _ rfl (.tmp 84) (.tmp 86) 36 rfl w.heap.size 54 i1 (.slice none 0 0) 1 24 Try.underlying36 hi1 hy0 hy1 hy2 rfl (by decide) (.slice (some ⟨g, 0, none⟩) k cv) k us rfl (HRW.out.alloc _) ⟨w8.heap.size, 0, none⟩ 1 1 [.slice none 0 0] rfl rfl (one_newN _ _ _) (one_any _ _ _ _ rfl) (by unfold maxLen; omega) (by omega) (by rw [alloc_sz]; omega) ?_))
     intro v' wT hown' hgrow _ hat
     have bA : Below w8.heap.size w8 (w8.alloc (.cells #[.slice none 0 0] 54)) := (Below.refl _ _).alloc (Nat.le_refl _) _
     have hol8 := ownl_push (HOL2.out.kept bA) (HN.out.grow bA) (by rw [rowsK_len]; exact hown') hgrow
     obtain ⟨p8, c8, rfl⟩ := own_slice hown'
     have hne8 : ∀ g, (Value.slice p8 (k + 1) c8).ownBlock = some g → g ≠ w.heap.size + 2 := fun g e => by
      rcases hat with h | h
      ·rw [h] at e; exact HNE.out g e
      ·rw [h] at e
       simp only [Option.some.injEq] at e
       have h9 : w8.heap.size + 1 = g := by first | exact e | (rw [alloc_sz] at e; exact e)
       omega
     have hc8 := (hgrow.block _ (by rw [alloc_sz]; omega) (fun e => HNE.out _ e.symm rfl)).trans ((bA.block _ (by omega)).trans HC2.out)
     have ha8 := (hgrow.block w.heap.size (by rw [alloc_sz]; omega) (fun e => by
      obtain ⟨cur, hh⟩ : ∃ cur, w8.heap[w.heap.size]? = some (.cells cur 54 (0, 0)) := by
       rcases id HRW.out.2 with ⟨e1, _⟩ | ⟨g, cap, cur, e1, _, hh, _⟩
       ·rw [e1] at e; simp [Value.ownBlock] at e
       ·rw [e1] at e
        simp only [Value.ownBlock, Option.some.injEq] at e
        exact ⟨cur, by rw [e]; exact hh⟩
      rw [HA2.out] at hh
      simp only [Option.some.injEq, Obj.cells.injEq] at hh
      exact absurd hh.2.1 (by decide))).trans ((bA.block _ (by omega)).trans HA2.out)
     have hb8 : Below w.heap.size w wT := Below.grown (HB2.out.trans (bA.mono HB2.out.size)) hgrow (by rw [alloc_sz]; omega) (fun j hj => (HRW.out.lt j hj).1)
     have HOL8 := Lib.hid hol8
     have HNE8 := Lib.hid hne8
     have HC8 := Lib.hid hc8
     have HA8 := Lib.hid ha8
     have HB8 := Lib.hid hb8
     clear hown' hgrow hat bA hol8 hne8 hc8 ha8 hb8
     go_wp2_with (fail)
     go_roundw
     case rel => exact ⟨k + 1, _, by go_num, by omega, by rw [rowsK_snoc, HR2.out, if_neg (by omega)]; exact HOL8, HNE8, HC8, HA8, HB8⟩
     case measure => simp [intOf]; omega
  ·obtain rfl : k = L.length := by omega
   have i2 : ¬ (L.length : Int) < L.length := by omega
   have hR2 : wr.ownsRow w.heap.size 54 1 (.slice (some ⟨w.heap.size + 2, 0, none⟩) 0 0) 0 [] := ⟨rfl, .inr ⟨w.heap.size + 2, 0, #[], rfl, by omega, HC.out, Nat.le_refl _, by decide, rfl, by simp⟩⟩
   have HR2 := Lib.hid hR2
   clear hR2
   go_wp2_with (fail)
   go_loopw [4, 10] (fun v2 i w2 => ∃ (j : Nat) (us2 : List Value), i = .int .i64 j ∧ j ≤ out.length ∧ Hid (OwnL w.heap.size w2 (.slice pv L.length cv) (rowsK L L.length) us) ∧ Hid (OwnL w.heap.size w2 v2 ((out.take j).map (rowD L)) us2) ∧ Hid (∀ g, (Value.slice pv L.length cv).ownBlock = some g → v2.ownBlock ≠ some g) ∧ Hid (w2.heap[w.heap.size]? = some (.cells #[.int .i64 n, .slice pl L.length cl, .slice po out.length co] 25 (0, 0))) ∧ Hid (Below w.heap.size w w2)) (fun v2 i _ => out.length - (intOf i).toNat)
   case atStart => exact ⟨0, [], rfl, Nat.zero_le _, HOL, Lib.hid ⟨HR2.out, fun k u x h1 h2 => by simp at h1⟩, Lib.hid (fun g e h => by simp only [Value.ownBlock, Option.some.injEq] at h; exact HNE.out g e h.symm), HA, HB⟩
   case round =>
    clear HR2 HOL HNE HC HA HB m0
    obtain ⟨j, us2, rfl, hj, HOL, HO2, HSEP, HA, HB⟩ := hrel
    have m1 := heapN_cellj HA.out (k := 2) rfl
    obtain ⟨p2, c2, hp2⟩ := own_slice HO2.out.row
    have htl : ((out.take j).map (rowD L)).length = j := by rw [List.length_map, List.length_take]; omega
    rw [htl] at hp2
    subst hp2
    by_cases hjl : j < out.length
    ·have i3 : (j : Int) < out.length := by omega
     obtain ⟨y, hy⟩ : ∃ y, out[j]? = some y := ⟨_, List.getElem?_eq_getElem hjl⟩
     have hyb := HOUT.out y (List.mem_of_getElem? hy)
     obtain ⟨q, rfl⟩ : ∃ q : Nat, y = q := ⟨y.toNat, by omega⟩
     obtain ⟨bo, oo, rfl, hbo, rdo⟩ := px_rd HO.out hy
     have g0 := rdo ⟨wr, HB.out⟩
     dsimp only at g0
     have iq : (q : Int) < L.length := by omega
     have hsn : (out.take (j + 1)).map (rowD L) = (out.take j).map (rowD L) ++ [rowD L q] := by rw [List.take_add_one, hy]; simp
     obtain ⟨g, c', hgc, _⟩ := ownl_at HOL.out (by rw [rowsK_len]; omega)
     obtain rfl : pv = some ⟨g, 0, none⟩ := by simp only [Value.slice.injEq] at hgc; exact hgc.1
     obtain ⟨pq, cq, hcq, hnq⟩ := ownl_cell HOL.out (rowsK_at L (show q < L.length by omega))
     obtain ⟨rq, hrq⟩ : ∃ r, rowD L q = r := ⟨_, rfl⟩
     rw [hrq] at hsn hcq hnq
     have hrow := HO2.out.row
     rw [htl] at hrow
     have HRW := Lib.hid hrow
     have HN := Lib.hid hnq
     have HSN := Lib.hid hsn
     have HTL := Lib.hid htl
     have hsz : w.heap.size ≤ wr.heap.size := HB.out.size
     clear hgc hnq hrow hsn htl hy rdo hrq
     go_wp2_with (at_builtin; go_loud (refine wpList_append_own_at _ rfl (.tmp 95) (.tmp 104) 36 rfl w.heap.size 54 i1 (.slice none 0 0) 1 24 Try.underlying36 hi1 hy0 hy1 hy2 rfl (by decide) (.slice p2 j c2) j us2 rfl (HRW.out.alloc _) ⟨wr.heap.size, 0, none⟩ 1 1 [.slice pq rq.length cq] rfl rfl (one_newN _ _ _) (one_any _ _ _ _ rfl) (by unfold maxLen; omega) (by omega) (by rw [alloc_sz]; omega) ?_))
     intro v' w8 hown' hgrow _ hat
     have bA : Below wr.heap.size wr (wr.alloc (.cells #[.slice pq rq.length cq] 54)) := (Below.refl _ _).alloc (Nat.le_refl _) _
     have hol8 := ownl_push (HO2.out.kept bA) (HN.out.grow bA) (by rw [HTL.out]; exact hown') hgrow
     have hol9 := ownl_keep (HOL.out.kept bA) (HRW.out.alloc (.cells #[.slice pq rq.length cq] 54)) hgrow HSEP.out
     obtain ⟨p8, c8, rfl⟩ := own_slice hown'
     have hsep8 : ∀ x, (Value.slice (some ⟨g, 0, none⟩) L.length cv).ownBlock = some x → (Value.slice p8 (j + 1) c8).ownBlock ≠ some x := fun x e h => by
      rcases hat with h1 | h1
      ·rw [h1] at h; exact HSEP.out x e h
      ·rw [h1] at h
       have h2 := (HOL.out.row.lt x e).2
       have h9 : wr.heap.size + 1 = x := by simp only [Option.some.injEq] at h; first | exact h | (rw [alloc_sz] at h; exact h)
       omega
     have hlt0 : w.heap.size < wr.heap.size := (Array.getElem?_eq_some_iff.1 HA.out).1
     have ha8 := (hgrow.block w.heap.size (by rw [alloc_sz]; omega) (fun e => by
      obtain ⟨cur, hh⟩ : ∃ cur, wr.heap[w.heap.size]? = some (.cells cur 54 (0, 0)) := by
       rcases id HRW.out.2 with ⟨e1, _⟩ | ⟨g, cap, cur, e1, _, hh, _⟩
       ·rw [e1] at e; simp [Value.ownBlock] at e
       ·rw [e1] at e
        simp only [Value.ownBlock, Option.some.injEq] at e
        exact ⟨cur, by rw [e]; exact hh⟩
      rw [HA.out] at hh
      simp only [Option.some.injEq, Obj.cells.injEq] at hh
      exact absurd hh.2.1 (by decide))).trans ((bA.block _ (by omega)).trans HA.out)
     have hb8 : Below w.heap.size w w8 := Below.grown (HB.out.trans (bA.mono HB.out.size)) hgrow (by rw [alloc_sz]; omega) (fun x hx => (HRW.out.lt x hx).1)
     have H8 := Lib.hid hol8
     have H9 := Lib.hid hol9
     have S8 := Lib.hid hsep8
     have A8 := Lib.hid ha8
     have B8 := Lib.hid hb8
     clear hown' hgrow hat bA hol8 hol9 hsep8 ha8 hb8
     go_wp2_with (fail)
     go_roundw
     case rel => exact ⟨j + 1, _, by go_num, by omega, H9, by rw [HSN.out]; exact H8, S8, A8, B8⟩
     case measure => simp [intOf]; omega
    ·obtain rfl : j = out.length := by omega
     have i3 : ¬ (out.length : Int) < out.length := by omega
     have h := HO2.out
     rw [List.take_length] at h
     have HF := Lib.hid h
     clear h
     go_wp2_with (fail)
     go_ret
     exact ⟨_, rfl, ⟨us2, HF.out⟩, HB.out⟩
end Go.Proofs.Ytajddejeglhbhaa
