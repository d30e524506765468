/-
 The tape's reference: System.
-/
import Derived.Test.YtajddejeglhbhaaTi
import Derived.Deep.RegionLaw
namespace Go.Proofs.Ytajddejeglhbhaa
open Go.ChangeShapes Go.WideShapes Go.ChangeAt Go.RowKit Go.Maps
set_option linter.unusedVariables false
set_option linter.unusedSimpArgs false
set_option maxRecDepth 100000
attribute [local irreducible] Calls
/-- The expression of an output, or 1. -/
def sysT (L : List Is) (y : Int) : Ex := if (pre (trL L L.length y)).length ≤ 200 then trL L L.length y else .e0 ⟨1, 0, 65536, 65536⟩
def rowS (L : List Is) (y : Int) : List Nd := if rowD L y = [] then [⟨1, 0, 65536, 65536⟩] else rowD L y
def nms : List ByteArray := [⟨#[120]⟩, ⟨#[121]⟩, ⟨#[122]⟩]
theorem rowS_pre {N : Int} {L : List Is} (h : VL N L) {i : Nat} (hi : i < L.length) : rowS L i = pre (sysT L i) := by
 unfold rowS sysT
 rw [row_tr h hi]
 have hp := pre_pos (trL L L.length i)
 by_cases hl : (pre (trL L L.length i)).length ≤ 200
 ·rw [if_pos hl, if_pos hl, if_neg (by intro e; rw [e] at hp; simp at hp)]
 ·rw [if_neg hl, if_neg hl, if_pos rfl]
  rfl
theorem info_str : (Try.prog.info? 9).map (fun i => (i.zero, i.size, i.bytes)) = some (some (.string ByteArray.empty), 1, 16) := by kernel_rfl
theorem one_str (s : ByteArray) : ∀ u ∈ [Value.string s], u.oneCell' = true := by
 intro u hu
 simp at hu
 subst hu
 rfl
theorem nxo_setT {W : World} {v : Value} {l : List Nd} (hv : NxO W v l) {X : Nat} {cs : Array Value} {t : TypeId} {z : Nat × Nat} (hX : W.heap[X]? = some (.cells cs t z)) (ht : t ≠ 62) (o : Nat) (y : Value) : NxO (W.setCell ⟨X, o, none⟩ y) v l := by
 obtain ⟨⟨⟨h1, p, c, rfl, h2⟩, h3⟩, h4⟩ := hv
 have hg := grownBy_setN W ⟨X, o, none⟩ y
 have hb : ∀ a : Addr, p = some a → (W.setCell ⟨X, o, none⟩ y).heap[a.block]? = W.heap[a.block]? := fun a e => by
  obtain ⟨cur, hc⟩ := h4 a _ _ (by rw [e])
  refine hg.block _ (Array.getElem?_eq_some_iff.1 hc).1 (fun e2 => ?_)
  rw [Option.some.inj e2, hX] at hc
  simp only [Option.some.injEq, Obj.cells.injEq] at hc
  exact ht hc.2.1
 refine ⟨⟨⟨h1, p, c, rfl, fun i x hx => ?_⟩, h3⟩, fun a n c' e => ?_⟩
 ·obtain ⟨b, o', e, h5, h6⟩ := h2 i x hx
  have hbb := hb _ e
  exact ⟨b, o', e, Nat.lt_of_lt_of_le h5 hg.size, fun j v hv => (World.cell?_of_block (a := ⟨b, o' + i * 4 + j, none⟩) hbb).trans (h6 j v hv)⟩
 ·obtain ⟨cur, hc⟩ := h4 a n c' e
  simp only [Value.slice.injEq] at e
  exact ⟨cur, (hb a e.1).trans hc⟩
theorem nxo_str {W W' : World} {v r : Value} {l : List Nd} {B n : Nat} {us : List Value} (hv : NxO W v l) (hr : W.ownsRow B 9 1 r n us) (hg : W.grownBy W' r.ownBlock) : NxO W' v l := by
 obtain ⟨⟨⟨h1, p, c, rfl, h2⟩, h3⟩, h4⟩ := hv
 have hb : ∀ a : Addr, p = some a → W'.heap[a.block]? = W.heap[a.block]? := fun a e => by
  obtain ⟨cur, hc⟩ := h4 a _ _ (by rw [e])
  refine hg.block _ (Array.getElem?_eq_some_iff.1 hc).1 (fun e2 => ?_)
  rcases id hr.2 with ⟨e1, _⟩ | ⟨g', cap, cur', e1, _, hh, _⟩
  ·rw [e1] at e2; simp [Value.ownBlock] at e2
  ·rw [e1] at e2
   simp only [Value.ownBlock, Option.some.injEq] at e2
   rw [← e2, hc] at hh
   simp only [Option.some.injEq, Obj.cells.injEq] at hh
   exact absurd hh.2.1 (by decide)
 refine ⟨⟨⟨h1, p, c, rfl, fun i x hx => ?_⟩, h3⟩, fun a n c' e => ?_⟩
 ·obtain ⟨b, o', e, h5, h6⟩ := h2 i x hx
  have hbb := hb _ e
  exact ⟨b, o', e, Nat.lt_of_lt_of_le h5 hg.size, fun j v hv => (World.cell?_of_block (a := ⟨b, o' + i * 4 + j, none⟩) hbb).trans (h6 j v hv)⟩
 ·obtain ⟨cur, hc⟩ := h4 a n c' e
  simp only [Value.slice.injEq] at e
  exact ⟨cur, (hb a e.1).trans hc⟩
/-- What System works on. -/
structure SyI (w w1 : World) (u vn vf : Value) (rows : List (List Nd)) (us : List Value) (k : Nat) (names : List ByteArray) (F : List (List Nd)) (us2 : List Value) (W : World) : Prop where
 res : W.heap[w.heap.size + 1]? = some (.cells #[.slice none 0 0, .slice none 0 0] 38 (0, 0))
 sys : W.heap[w.heap.size + 2]? = some (.cells #[vn, vf] 38 (0, 0))
 nm : W.ownsRow w1.heap.size 9 1 vn k (cr encS names)
 fr : OwnL w1.heap.size W vf F us2
 rw : OwnL w.heap.size W u rows us
 sep : ∀ g, u.ownBlock = some g → g < w1.heap.size
 bel : Below w.heap.size w W
 sz : w.heap.size + 3 ≤ w1.heap.size ∧ w1.heap.size ≤ W.heap.size
section
variable {w w1 W W' : World} {u vn vf : Value} {rows F : List (List Nd)} {us us2 : List Value} {k : Nat} {names : List ByteArray}
theorem SyI.grow (h : SyI w w1 u vn vf rows us k names F us2 W) (hB : Below W.heap.size W W') : SyI w w1 u vn vf rows us k names F us2 W' := by
 obtain ⟨s1, s2⟩ := h.sz
 exact ⟨(hB.block _ (by omega)).trans h.res, (hB.block _ (by omega)).trans h.sys, own_keptN h.nm hB, h.fr.kept hB, h.rw.kept hB, h.sep, h.bel.trans (hB.mono h.bel.size), s1, Nat.le_trans s2 hB.size⟩
theorem SyI.name (h : SyI w w1 u vn vf rows us k names F us2 W) {p' : Option Addr} {c' : Nat} {s : ByteArray} (ho : W'.ownsRow w1.heap.size 9 1 (.slice p' (k + 1) c') (k + 1) (cr encS names ++ [.string s])) (hg : W.grownBy W' vn.ownBlock) : SyI w w1 u (.slice p' (k + 1) c') vf rows us (k + 1) (names ++ [s]) F us2 (W'.setCell ⟨w.heap.size + 2, 0, none⟩ (.slice p' (k + 1) c')) := by
 obtain ⟨s1, s2⟩ := h.sz
 have hne : ∀ j, j < w1.heap.size → some j ≠ vn.ownBlock := fun j hj e => by have := (h.nm.lt j e.symm).1; omega
 have hset := grownBy_setN W' ⟨w.heap.size + 2, 0, none⟩ (.slice p' (k + 1) c')
 have hb2 := (hg.block _ (by omega) (hne (w.heap.size + 2) (by omega))).trans h.sys
 have hsz := hg.size
 have hrow : ∀ {t : TypeId} {sz n : Nat} {v : Value} {xs : List Value}, W'.ownsRow w1.heap.size t sz v n xs → (W'.setCell ⟨w.heap.size + 2, 0, none⟩ (.slice p' (k + 1) c')).ownsRow w1.heap.size t sz v n xs := fun hr => hr.kept hset (own_ne fun g hg' e => by have := (hr.lt g hg').1; dsimp only at e; omega)
 have hel : ∀ {v : Value} {l : List Nd}, NxO W v l → NxO (W'.setCell ⟨w.heap.size + 2, 0, none⟩ (.slice p' (k + 1) c')) v l := fun {v l} hv => by
  have h1 : NxO W' v l := nxo_str hv h.nm hg
  exact nxo_setT h1 hb2 (by decide) 0 _
 refine ⟨(hset.block _ (by omega) (fun e => by have := Option.some.inj e; dsimp only at this; omega)).trans ((hg.block _ (by omega) (hne _ (by omega))).trans h.res), cellsT_setN (o := 0) (u := .slice p' (k + 1) c') hb2, ?_, ⟨hrow (row_app (by decide) h.fr.row h.nm hg), fun i x l h1 h2 => hel (h.fr.el i x l h1 h2)⟩, ⟨(row_app (by decide) h.rw.row h.nm hg).kept hset (own_ne fun g hg' e => ?_), fun i x l h1 h2 => hel (h.rw.el i x l h1 h2)⟩, h.sep, ?_, s1, ?_⟩
 ·rw [cr_snoc]
  exact hrow ho
 ·obtain ⟨cur, hh⟩ : ∃ cur, W.heap[g]? = some (.cells cur 54 (0, 0)) := by
   rcases id h.rw.row.2 with ⟨e1, _⟩ | ⟨g', cap, cur, e1, _, hh, _⟩
   ·rw [e1] at hg'; simp [Value.ownBlock] at hg'
   ·rw [e1] at hg'
    simp only [Value.ownBlock, Option.some.injEq] at hg'
    exact ⟨cur, by rw [← hg']; exact hh⟩
  dsimp only at e
  rw [e, h.sys] at hh
  simp only [Option.some.injEq, Obj.cells.injEq] at hh
  exact absurd hh.2.1 (by decide)
 ·exact (h.bel.trans ⟨hg.os, hg.tape, hg.output, hg.size, fun j hj => hg.block j (by have := h.bel.size; omega) (hne j (by omega))⟩).setCell (p := ⟨w.heap.size + 2, 0, none⟩) (by dsimp only; omega) _
 ·exact Nat.le_trans s2 (Nat.le_trans hsz hset.size)
theorem SyI.row (h : SyI w w1 u vn vf rows us k names F us2 W) {p' : Option Addr} {c' n : Nat} {x : Value} {r : List Nd} (hn : NxO W x r) (hF : F.length = n) (ho : W'.ownsRow w1.heap.size 54 1 (.slice p' (n + 1) c') (n + 1) (us2 ++ [x])) (hg : W.grownBy W' vf.ownBlock) : SyI w w1 u vn (.slice p' (n + 1) c') rows us k names (F ++ [r]) (us2 ++ [x]) (W'.setCell ⟨w.heap.size + 2, 1, none⟩ (.slice p' (n + 1) c')) := by
 obtain ⟨s1, s2⟩ := h.sz
 have hfr := h.fr.row
 have hne : ∀ j, j < w1.heap.size → some j ≠ vf.ownBlock := fun j hj e => by have := (hfr.lt j e.symm).1; omega
 have hset := grownBy_setN W' ⟨w.heap.size + 2, 1, none⟩ (.slice p' (n + 1) c')
 have hb2 := (hg.block _ (by omega) (hne (w.heap.size + 2) (by omega))).trans h.sys
 have hsz := hg.size
 have hrow : ∀ {t : TypeId} {sz n' : Nat} {v : Value} {xs : List Value}, W'.ownsRow w1.heap.size t sz v n' xs → (W'.setCell ⟨w.heap.size + 2, 1, none⟩ (.slice p' (n + 1) c')).ownsRow w1.heap.size t sz v n' xs := fun hr => hr.kept hset (own_ne fun g hg' e => by have := (hr.lt g hg').1; dsimp only at e; omega)
 have hl := ownl_push h.fr hn (by rw [hF]; exact ho) hg
 have hk := ownl_keep h.rw hfr hg (fun g e e2 => by have := h.sep g e; have := (hfr.lt g e2).1; omega)
 have hel : ∀ {v : Value} {l : List Nd}, NxO W' v l → NxO (W'.setCell ⟨w.heap.size + 2, 1, none⟩ (.slice p' (n + 1) c')) v l := fun hv => nxo_setT hv hb2 (by decide) 1 _
 refine ⟨(hset.block _ (by omega) (fun e => by have := Option.some.inj e; dsimp only at this; omega)).trans ((hg.block _ (by omega) (hne _ (by omega))).trans h.res), cellsT_setN (o := 1) (u := .slice p' (n + 1) c') hb2, hrow (row_app (by decide) h.nm hfr hg), ⟨hrow hl.row, fun i x l h1 h2 => hel (hl.el i x l h1 h2)⟩, ⟨hk.row.kept hset (own_ne fun g hg' e => ?_), fun i x l h1 h2 => hel (hk.el i x l h1 h2)⟩, h.sep, ?_, s1, ?_⟩
 ·obtain ⟨cur, hh⟩ : ∃ cur, W'.heap[g]? = some (.cells cur 54 (0, 0)) := by
   rcases id hk.row.2 with ⟨e1, _⟩ | ⟨g', cap, cur, e1, _, hh, _⟩
   ·rw [e1] at hg'; simp [Value.ownBlock] at hg'
   ·rw [e1] at hg'
    simp only [Value.ownBlock, Option.some.injEq] at hg'
    exact ⟨cur, by rw [← hg']; exact hh⟩
  dsimp only at e
  rw [e, hb2] at hh
  simp only [Option.some.injEq, Obj.cells.injEq] at hh
  exact absurd hh.2.1 (by decide)
 ·exact (h.bel.trans ⟨hg.os, hg.tape, hg.output, hg.size, fun j hj => hg.block j (by have := h.bel.size; omega) (hne j (by omega))⟩).setCell (p := ⟨w.heap.size + 2, 1, none⟩) (by dsimp only; omega) _
 ·exact Nat.le_trans s2 (Nat.le_trans hsz hset.size)
end
set_option maxHeartbeats 32000000 in
theorem system_ok (n : Int) (vl vo : Value) (L : List Is) (out : List Int) (w : World) (hl : Ix w vl L) (ho : Px w vo out) (htv : tvB n L out = true) (hn3 : n ≤ 3) :
  Calls Try.prog 14 #[.agg #[.int .i64 n, vl, vo]] w fun e w' => ∃ pn cn pf cf, e = .returned (.agg #[.slice pn out.length cn, .slice pf out.length cf]) ∧ w'.ownsRow w.heap.size 9 1 (.slice pn out.length cn) out.length (cr encS (nms.take out.length)) ∧ (∃ us, OwnL w.heap.size w' (.slice pf out.length cf) (out.map (rowS L)) us) ∧ Below w.heap.size w w' := by
 obtain ⟨i0, hi, hz0, hz1, hz2⟩ := info_parts info_str
 obtain ⟨i1, hi1, hy0, hy1, hy2⟩ := info_parts info_ns
 obtain ⟨pl, cl, rfl⟩ := hl.cut
 obtain ⟨po, co, rfl⟩ := ho.cut
 obtain ⟨hn1, hn6, h400, hon, hvl, hout⟩ := tv_cases htv
 have hol : out.length ≤ 3 := by omega
 have hE : Below w.heap.size w (((w.alloc (.cells #[.int .i64 n, .slice pl L.length cl, .slice po out.length co] 25)).alloc (.cells #[.slice none 0 0, .slice none 0 0] 38)).alloc (.cells #[.slice none 0 0, .slice none 0 0] 38)) := allocs_below [.cells #[.int .i64 n, .slice pl L.length cl, .slice po out.length co] 25, .cells #[.slice none 0 0, .slice none 0 0] 38, .cells #[.slice none 0 0, .slice none 0 0] 38] w
 have hA : (((w.alloc (.cells #[.int .i64 n, .slice pl L.length cl, .slice po out.length co] 25)).alloc (.cells #[.slice none 0 0, .slice none 0 0] 38)).alloc (.cells #[.slice none 0 0, .slice none 0 0] 38)).heap[w.heap.size + 0]? = some (.cells #[.int .i64 n, .slice pl L.length cl, .slice po out.length co] 25) := allocs_at [.cells #[.int .i64 n, .slice pl L.length cl, .slice po out.length co] 25, .cells #[.slice none 0 0, .slice none 0 0] 38, .cells #[.slice none 0 0, .slice none 0 0] 38] w 0 _ rfl
 rw [Nat.add_zero] at hA
 have hC1 : (((w.alloc (.cells #[.int .i64 n, .slice pl L.length cl, .slice po out.length co] 25)).alloc (.cells #[.slice none 0 0, .slice none 0 0] 38)).alloc (.cells #[.slice none 0 0, .slice none 0 0] 38)).heap[w.heap.size + 1]? = some (.cells #[.slice none 0 0, .slice none 0 0] 38) := allocs_at [.cells #[.int .i64 n, .slice pl L.length cl, .slice po out.length co] 25, .cells #[.slice none 0 0, .slice none 0 0] 38, .cells #[.slice none 0 0, .slice none 0 0] 38] w 1 _ rfl
 have hC2 : (((w.alloc (.cells #[.int .i64 n, .slice pl L.length cl, .slice po out.length co] 25)).alloc (.cells #[.slice none 0 0, .slice none 0 0] 38)).alloc (.cells #[.slice none 0 0, .slice none 0 0] 38)).heap[w.heap.size + 2]? = some (.cells #[.slice none 0 0, .slice none 0 0] 38) := allocs_at [.cells #[.int .i64 n, .slice pl L.length cl, .slice po out.length co] 25, .cells #[.slice none 0 0, .slice none 0 0] 38, .cells #[.slice none 0 0, .slice none 0 0] 38] w 2 _ rfl
 have hsE : (((w.alloc (.cells #[.int .i64 n, .slice pl L.length cl, .slice po out.length co] 25)).alloc (.cells #[.slice none 0 0, .slice none 0 0] 38)).alloc (.cells #[.slice none 0 0, .slice none 0 0] 38)).heap.size = w.heap.size + 3 := by rw [alloc_sz, alloc_sz, alloc_sz]
 have KD := Lib.hid (fun w a b => rdec_ok n (.slice pl L.length cl) (.slice po out.length co) L out w a b htv)
 have HL := Lib.hid (hl.grow hE)
 have HO := Lib.hid (ho.grow hE)
 have HE := Lib.hid hE
 have H1 := Lib.hid hC1
 have H2 := Lib.hid hC2
 have HSE := Lib.hid hsE
 clear hl ho htv hvl hout hA hC1 hC2 hE hon hsE
 go_enter Try.func14, Try.ntmps14
 go_wp2_with (fail)
 refine (KD.out _ HL.out HO.out).mono ?_
 rintro e w1 ⟨u, rfl, ⟨us, hu⟩, hB1⟩
 have hs1 := hB1.size
 have hse := HSE.out
 have hst : SyI w w1 u (.slice none 0 0) (.slice none 0 0) (out.map (rowD L)) us 0 [] [] [] w1 := ⟨(hB1.block _ (by omega)).trans H1.out, (hB1.block _ (by omega)).trans H2.out, World.ownsRow_nil _ _ _ _, ⟨World.ownsRow_nil _ _ _ _, fun k u x h1 h2 => by simp at h1⟩, ⟨own_base hu.row (by omega), hu.el⟩, fun g e => (hu.row.lt g e).2, HE.out.trans (hB1.mono HE.out.size), by omega, Nat.le_refl _⟩
 have HST := Lib.hid hst
 obtain ⟨pu, cu, hpu⟩ := own_slice hu.row
 rw [List.length_map] at hpu
 subst hpu
 clear hst hu hB1 HE H1 H2 HL HO KD hse HSE
 go_wp2_with (fail)
 go_loopw [5] (fun i wr => ∃ (k : Nat) (vn vf : Value) (us2 : List Value), i = .int .i64 k ∧ k ≤ out.length ∧ Hid (SyI w w1 (.slice pu out.length cu) vn vf (out.map (rowD L)) us k (nms.take k) ((out.take k).map (rowS L)) us2 wr)) (fun i _ => out.length - (intOf i).toNat)
 case atStart => exact ⟨0, _, _, [], rfl, Nat.zero_le _, HST⟩
 case round =>
  clear HST
  obtain ⟨k, vn, vf, us2, rfl, hk, HS⟩ := hrel
  obtain ⟨pn, cn, rfl⟩ := own_slice HS.out.nm
  have hfl : ((out.take k).map (rowS L)).length = k := by rw [List.length_map, List.length_take]; omega
  obtain ⟨pf, cf, hpf⟩ := own_slice HS.out.fr.row
  rw [hfl] at hpf
  subst hpf
  have HFL := Lib.hid hfl
  clear hfl
  by_cases hlt : k < out.length
  ·have i2 : (k : Int) < out.length := by omega
   obtain ⟨y, hy⟩ : ∃ y, out[k]? = some y := ⟨_, List.getElem?_eq_getElem hlt⟩
   have hrk : (out.map (rowD L))[k]? = some (rowD L y) := by rw [List.getElem?_map, hy]; rfl
   have hsn : (out.take (k + 1)).map (rowS L) = (out.take k).map (rowS L) ++ [rowS L y] := by rw [List.take_add_one, hy]; simp
   obtain ⟨g, c', hgc, _⟩ := ownl_at HS.out.rw (by rw [List.length_map]; omega)
   obtain rfl : pu = some ⟨g, 0, none⟩ := by simp only [Value.slice.injEq] at hgc; exact hgc.1
   obtain ⟨pq, cq, hcq, hnq⟩ := ownl_cell HS.out.rw hrk
   have hrs : rowS L y = if rowD L y = [] then [⟨1, 0, 65536, 65536⟩] else rowD L y := rfl
   obtain ⟨r, hr⟩ : ∃ r, rowD L y = r := ⟨_, rfl⟩
   obtain ⟨rs, hrs2⟩ : ∃ r, rowS L y = r := ⟨_, rfl⟩
   rw [hr] at hcq hnq hrs
   rw [hrs2] at hrs hsn
   have HSN := Lib.hid hsn
   have HNQ := Lib.hid hnq
   have HRS := Lib.hid hrs
   have hsz1 := HS.out.sz.1
   have hsz2 := HS.out.sz.2
   clear hgc hnq hrk hsn hy hr hrs hrs2
   have hk3 : k = 0 ∨ k = 1 ∨ k = 2 := by omega
   rcases hk3 with rfl | rfl | rfl
   ·by_cases hr0 : r.length = 0
    ·have i3 : (r.length : Int) = 0 := by omega
     have i4 : ((r.length : Int) == 0) = true := by simp [hr0]
     obtain rfl : r = [] := List.eq_nil_of_length_eq_zero hr0
     have hrs := HRS.out
     rw [if_pos rfl] at hrs
     subst hrs
     go_wp2_with (fail)
     refine (pt_one _).mono ?_
     rintro e w5 ⟨rfl, hB⟩
     have HZ := Lib.hid (nxo_own (l := [⟨1, 0, 65536, 65536⟩]) (B := w5.heap.size) (v := .slice (some ⟨w5.heap.size, 0, none⟩) 1 1) (W := w5.alloc (.cells #[.int .i64 1, .int .i64 0, .int .i64 65536, .int .i64 65536] 62)) ⟨rfl, .inr ⟨w5.heap.size, 1, _, rfl, Nat.le_refl _, World.alloc_heap_new w5 _, Nat.le_refl _, by decide, rfl, by simp [encN, cr]⟩⟩ (by simp [maxLen]))
     have l5 := heapN_cellj ((HS.out.grow hB).sys) (k := 0) rfl
     have hlt5 : w.heap.size + 2 < w5.heap.size := (Array.getElem?_eq_some_iff.1 (HS.out.grow hB).sys).1
     have HS5 := Lib.hid ((HS.out.grow hB).grow ((Below.refl w5.heap.size w5).alloc (Nat.le_refl _) (.cells #[.int .i64 1, .int .i64 0, .int .i64 65536, .int .i64 65536] 62)))
     clear hB hcq HNQ
     have l0 := heapN_cellj HS5.out.sys (k := 0) rfl
     have hszW := HS5.out.sz.2
     rw [alloc_sz] at hszW
     have hnm := HS5.out.nm
     have HNM := Lib.hid (own_keptN ((hnm.alloc (.cells #[.string ⟨#[120]⟩, .string ⟨#[121]⟩, .string ⟨#[122]⟩, .string ⟨#[117]⟩, .string ⟨#[118]⟩, .string ⟨#[119]⟩] 9)).alloc (.cells #[.string ⟨#[120]⟩] 9)) ((Below.refl _ _).drew))
     have bW : Below (w5.alloc (.cells #[.int .i64 1, .int .i64 0, .int .i64 65536, .int .i64 65536] 62)).heap.size (w5.alloc (.cells #[.int .i64 1, .int .i64 0, .int .i64 65536, .int .i64 65536] 62)) (((w5.alloc (.cells #[.int .i64 1, .int .i64 0, .int .i64 65536, .int .i64 65536] 62)).alloc (.cells #[.string ⟨#[120]⟩, .string ⟨#[121]⟩, .string ⟨#[122]⟩, .string ⟨#[117]⟩, .string ⟨#[118]⟩, .string ⟨#[119]⟩] 9)).alloc (.cells #[.string ⟨#[120]⟩] 9)).drew := (allocs_below [.cells #[.string ⟨#[120]⟩, .string ⟨#[121]⟩, .string ⟨#[122]⟩, .string ⟨#[117]⟩, .string ⟨#[118]⟩, .string ⟨#[119]⟩] 9, .cells #[.string ⟨#[120]⟩] 9] (w5.alloc (.cells #[.int .i64 1, .int .i64 0, .int .i64 65536, .int .i64 65536] 62))).drew
     have HSW := Lib.hid (HS5.out.grow bW)
     have HNW := Lib.hid (HZ.out.grow bW)
     have hnew : ∀ j u, ([Value.string ⟨#[120]⟩] : List Value)[j]? = some u → (((w5.alloc (.cells #[.int .i64 1, .int .i64 0, .int .i64 65536, .int .i64 65536] 62)).alloc (.cells #[.string ⟨#[120]⟩, .string ⟨#[121]⟩, .string ⟨#[122]⟩, .string ⟨#[117]⟩, .string ⟨#[118]⟩, .string ⟨#[119]⟩] 9)).alloc (.cells #[.string ⟨#[120]⟩] 9)).drew.cell? ((⟨w5.heap.size + 1 + 1, 0, none⟩ : Addr).add j) = some u := by
      have h := one_newN ((w5.alloc (.cells #[.int .i64 1, .int .i64 0, .int .i64 65536, .int .i64 65536] 62)).alloc (.cells #[.string ⟨#[120]⟩, .string ⟨#[121]⟩, .string ⟨#[122]⟩, .string ⟨#[117]⟩, .string ⟨#[118]⟩, .string ⟨#[119]⟩] 9)) (.string ⟨#[120]⟩) 9
      rw [alloc_sz, alloc_sz] at h
      exact h
     have HNEW := Lib.hid hnew
     have hWs : (((w5.alloc (.cells #[.int .i64 1, .int .i64 0, .int .i64 65536, .int .i64 65536] 62)).alloc (.cells #[.string ⟨#[120]⟩, .string ⟨#[121]⟩, .string ⟨#[122]⟩, .string ⟨#[117]⟩, .string ⟨#[118]⟩, .string ⟨#[119]⟩] 9)).alloc (.cells #[.string ⟨#[120]⟩] 9)).drew.heap.size = w5.heap.size + 1 + 1 + 1 := by
      show (((w5.alloc (.cells #[.int .i64 1, .int .i64 0, .int .i64 65536, .int .i64 65536] 62)).alloc (.cells #[.string ⟨#[120]⟩, .string ⟨#[121]⟩, .string ⟨#[122]⟩, .string ⟨#[117]⟩, .string ⟨#[118]⟩, .string ⟨#[119]⟩] 9)).alloc (.cells #[.string ⟨#[120]⟩] 9)).heap.size = _
      rw [alloc_sz, alloc_sz, alloc_sz]
     have hltW : w.heap.size + 2 < (w5.alloc (.cells #[.int .i64 1, .int .i64 0, .int .i64 65536, .int .i64 65536] 62)).heap.size := (Array.getElem?_eq_some_iff.1 HS5.out.sys).1
     have lA := heapN_cellj ((HS5.out.grow ((Below.refl (w5.alloc (.cells #[.int .i64 1, .int .i64 0, .int .i64 65536, .int .i64 65536] 62)).heap.size (w5.alloc (.cells #[.int .i64 1, .int .i64 0, .int .i64 65536, .int .i64 65536] 62))).alloc (Nat.le_refl _) (.cells #[.string ⟨#[120]⟩, .string ⟨#[121]⟩, .string ⟨#[122]⟩, .string ⟨#[117]⟩, .string ⟨#[118]⟩, .string ⟨#[119]⟩] 9))).sys) (k := 0) rfl
     have lB := heapN_cellj (HSW.out.sys) (k := 0) rfl
     clear hnm bW hnew
     go_wp2_with (fail)
     go_region_law (go_loud (refine step_append_ownN rfl (.tmp 27) (.tmp 32) 35 rfl w1.heap.size 9 i0 (.string ByteArray.empty) 1 16 Try.underlying35 hi hz0 hz1 hz2 rfl (by decide) (.slice pn 0 cn) 0 _ (by simp [Act.eval, Act.put]) HNM.out ⟨w5.heap.size + 1 + 1, 0, none⟩ 1 1 [.string ⟨#[120]⟩] (by simp [Act.eval, Act.put]) rfl HNEW.out (one_str _) (by unfold maxLen; omega) (by omega) (by omega) (by decide) ?_); intro p' c' w6 hown' hgrow hat; have hs6 := (hgrow.block _ (by have := HSW.out.sz; omega) (fun e => by have := (HSW.out.nm.lt _ e.symm).1; have := HSW.out.sz; omega)).trans HSW.out.sys; have y0 := heapN_cellj hs6 (k := 0) rfl; have z0 : w6.frozen? ⟨w.heap.size + 2, 0, none⟩ = false := (by simp [World.frozen?, hs6]); have y1 := heapN_cellj hs6 (k := 1) rfl; have z1 : w6.frozen? ⟨w.heap.size + 2, 1, none⟩ = false := (by simp [World.frozen?, hs6]))
     all_goals
      have hx6 := HSW.out.name hown' hgrow
      have HN6 := Lib.hid (nxo_setT (nxo_str HNW.out HSW.out.nm hgrow) hs6 (by decide) 0 (.slice p' 1 c'))
      have HX6 := Lib.hid hx6
      clear hown' hgrow hat hs6 hx6 l0 lA lB
      have hrw := HX6.out.fr.row
      rw [HFL.out] at hrw
      have HRW := Lib.hid hrw
      have hnw : ∀ j u, ([.slice (some ⟨w5.heap.size, 0, none⟩) 1 1] : List Value)[j]? = some u → ((w6.setCell ⟨w.heap.size + 2, 0, none⟩ (.slice p' 1 c')).alloc (.cells #[.slice (some ⟨w5.heap.size, 0, none⟩) 1 1] 54)).cell? ((⟨w6.heap.size, 0, none⟩ : Addr).add j) = some u := by
       have h := one_newN (w6.setCell ⟨w.heap.size + 2, 0, none⟩ (.slice p' 1 c')) (.slice (some ⟨w5.heap.size, 0, none⟩) 1 1) 54
       rw [size_setN] at h
       exact h
      have HNW2 := Lib.hid hnw
      have hs66 : w1.heap.size ≤ w6.heap.size := by have h := HX6.out.sz.2; rw [size_setN] at h; exact h
      clear hrw hnw
      go_wp2_with (at_builtin; go_loud (refine wpList_append_own _ rfl (.tmp 36) (.tmp 38) 36 rfl w1.heap.size 54 i1 (.slice none 0 0) 1 24 Try.underlying36 hi1 hy0 hy1 hy2 rfl (by decide) (.slice pf 0 cf) 0 us2 rfl (HRW.out.alloc _) ⟨w6.heap.size, 0, none⟩ 1 1 [.slice (some ⟨w5.heap.size, 0, none⟩) 1 1] rfl rfl HNW2.out (one_any _ _ _ _ rfl) (by unfold maxLen; omega) (by omega) (by rw [alloc_sz, size_setN]; omega) ?_))
      intro v' w8 hown' hgrow _
      have bA : Below (w6.setCell ⟨w.heap.size + 2, 0, none⟩ (.slice p' 1 c')).heap.size (w6.setCell ⟨w.heap.size + 2, 0, none⟩ (.slice p' 1 c')) ((w6.setCell ⟨w.heap.size + 2, 0, none⟩ (.slice p' 1 c')).alloc (.cells #[.slice (some ⟨w5.heap.size, 0, none⟩) 1 1] 54)) := (Below.refl _ _).alloc (Nat.le_refl _) _
      have hx7 := HX6.out.grow bA
      obtain ⟨p8, c8, rfl⟩ := own_slice hown'
      have hs8 := (hgrow.block (w.heap.size + 2) (Nat.lt_of_lt_of_le (show w.heap.size + 2 < w1.heap.size by omega) hx7.sz.2) (fun e => by have := (hx7.fr.row.lt _ e.symm).1; omega)).trans hx7.sys
      have hx8 := hx7.row (HN6.out.grow bA) HFL.out hown' hgrow
      have u1 := heapN_cellj hs8 (k := 1) rfl
      have u2 : w8.frozen? ⟨w.heap.size + 2, 1, none⟩ = false := by simp [World.frozen?, hs8]
      have HX8 := Lib.hid hx8
      clear hown' hgrow bA hx7 hs8 hx8 y0 y1 z0 z1
      go_wp2_with (fail)
      go_roundw
      case rel => exact ⟨1, _, _, _, by go_num, by omega, by rw [HSN.out]; exact HX8⟩
      case measure => simp [intOf]; omega
    ·have i4 : ((r.length : Int) == 0) = false := by simpa using (show (r.length : Int) ≠ 0 by omega)
     have hrs := HRS.out
     rw [if_neg (by rintro rfl; simp at hr0)] at hrs
     subst hrs
     have l0 := heapN_cellj HS.out.sys (k := 0) rfl
     have hnm := HS.out.nm
     have HNM := Lib.hid (own_keptN ((hnm.alloc (.cells #[.string ⟨#[120]⟩, .string ⟨#[121]⟩, .string ⟨#[122]⟩, .string ⟨#[117]⟩, .string ⟨#[118]⟩, .string ⟨#[119]⟩] 9)).alloc (.cells #[.string ⟨#[120]⟩] 9)) ((Below.refl _ _).drew))
     have bW : Below wr.heap.size wr ((wr.alloc (.cells #[.string ⟨#[120]⟩, .string ⟨#[121]⟩, .string ⟨#[122]⟩, .string ⟨#[117]⟩, .string ⟨#[118]⟩, .string ⟨#[119]⟩] 9)).alloc (.cells #[.string ⟨#[120]⟩] 9)).drew := (allocs_below [.cells #[.string ⟨#[120]⟩, .string ⟨#[121]⟩, .string ⟨#[122]⟩, .string ⟨#[117]⟩, .string ⟨#[118]⟩, .string ⟨#[119]⟩] 9, .cells #[.string ⟨#[120]⟩] 9] wr).drew
     have HSW := Lib.hid (HS.out.grow bW)
     have HNW := Lib.hid (HNQ.out.grow bW)
     have hnew : ∀ j u, ([Value.string ⟨#[120]⟩] : List Value)[j]? = some u → ((wr.alloc (.cells #[.string ⟨#[120]⟩, .string ⟨#[121]⟩, .string ⟨#[122]⟩, .string ⟨#[117]⟩, .string ⟨#[118]⟩, .string ⟨#[119]⟩] 9)).alloc (.cells #[.string ⟨#[120]⟩] 9)).drew.cell? ((⟨wr.heap.size + 1, 0, none⟩ : Addr).add j) = some u := by
      have h := one_newN (wr.alloc (.cells #[.string ⟨#[120]⟩, .string ⟨#[121]⟩, .string ⟨#[122]⟩, .string ⟨#[117]⟩, .string ⟨#[118]⟩, .string ⟨#[119]⟩] 9)) (.string ⟨#[120]⟩) 9
      rw [alloc_sz] at h
      exact h
     have HNEW := Lib.hid hnew
     have hWs : ((wr.alloc (.cells #[.string ⟨#[120]⟩, .string ⟨#[121]⟩, .string ⟨#[122]⟩, .string ⟨#[117]⟩, .string ⟨#[118]⟩, .string ⟨#[119]⟩] 9)).alloc (.cells #[.string ⟨#[120]⟩] 9)).drew.heap.size = wr.heap.size + 1 + 1 := by
      show ((wr.alloc (.cells #[.string ⟨#[120]⟩, .string ⟨#[121]⟩, .string ⟨#[122]⟩, .string ⟨#[117]⟩, .string ⟨#[118]⟩, .string ⟨#[119]⟩] 9)).alloc (.cells #[.string ⟨#[120]⟩] 9)).heap.size = _
      rw [alloc_sz, alloc_sz]
     have hltW : w.heap.size + 2 < wr.heap.size := (Array.getElem?_eq_some_iff.1 HS.out.sys).1
     have lA := heapN_cellj ((HS.out.grow ((Below.refl wr.heap.size wr).alloc (Nat.le_refl _) (.cells #[.string ⟨#[120]⟩, .string ⟨#[121]⟩, .string ⟨#[122]⟩, .string ⟨#[117]⟩, .string ⟨#[118]⟩, .string ⟨#[119]⟩] 9))).sys) (k := 0) rfl
     have lB := heapN_cellj (HSW.out.sys) (k := 0) rfl
     clear hnm bW hnew
     go_wp2_with (fail)
     go_region_law (go_loud (refine step_append_ownN rfl (.tmp 27) (.tmp 32) 35 rfl w1.heap.size 9 i0 (.string ByteArray.empty) 1 16 Try.underlying35 hi hz0 hz1 hz2 rfl (by decide) (.slice pn 0 cn) 0 _ (by simp [Act.eval, Act.put]) HNM.out ⟨wr.heap.size + 1, 0, none⟩ 1 1 [.string ⟨#[120]⟩] (by simp [Act.eval, Act.put]) rfl HNEW.out (one_str _) (by unfold maxLen; omega) (by omega) (by omega) (by decide) ?_); intro p' c' w6 hown' hgrow hat; have hs6 := (hgrow.block _ (by have := HSW.out.sz; omega) (fun e => by have := (HSW.out.nm.lt _ e.symm).1; have := HSW.out.sz; omega)).trans HSW.out.sys; have y0 := heapN_cellj hs6 (k := 0) rfl; have z0 : w6.frozen? ⟨w.heap.size + 2, 0, none⟩ = false := (by simp [World.frozen?, hs6]); have y1 := heapN_cellj hs6 (k := 1) rfl; have z1 : w6.frozen? ⟨w.heap.size + 2, 1, none⟩ = false := (by simp [World.frozen?, hs6]))
     all_goals
      have hx6 := HSW.out.name hown' hgrow
      have HN6 := Lib.hid (nxo_setT (nxo_str HNW.out HSW.out.nm hgrow) hs6 (by decide) 0 (.slice p' 1 c'))
      have HX6 := Lib.hid hx6
      clear hown' hgrow hat hs6 hx6 l0 lA lB
      have hrw := HX6.out.fr.row
      rw [HFL.out] at hrw
      have HRW := Lib.hid hrw
      have hnw : ∀ j u, ([.slice pq rs.length cq] : List Value)[j]? = some u → ((w6.setCell ⟨w.heap.size + 2, 0, none⟩ (.slice p' 1 c')).alloc (.cells #[.slice pq rs.length cq] 54)).cell? ((⟨w6.heap.size, 0, none⟩ : Addr).add j) = some u := by
       have h := one_newN (w6.setCell ⟨w.heap.size + 2, 0, none⟩ (.slice p' 1 c')) (.slice pq rs.length cq) 54
       rw [size_setN] at h
       exact h
      have HNW2 := Lib.hid hnw
      have hs66 : w1.heap.size ≤ w6.heap.size := by have h := HX6.out.sz.2; rw [size_setN] at h; exact h
      clear hrw hnw
      go_wp2_with (at_builtin; go_loud (refine wpList_append_own _ rfl (.tmp 36) (.tmp 38) 36 rfl w1.heap.size 54 i1 (.slice none 0 0) 1 24 Try.underlying36 hi1 hy0 hy1 hy2 rfl (by decide) (.slice pf 0 cf) 0 us2 rfl (HRW.out.alloc _) ⟨w6.heap.size, 0, none⟩ 1 1 [.slice pq rs.length cq] rfl rfl HNW2.out (one_any _ _ _ _ rfl) (by unfold maxLen; omega) (by omega) (by rw [alloc_sz, size_setN]; omega) ?_))
      intro v' w8 hown' hgrow _
      have bA : Below (w6.setCell ⟨w.heap.size + 2, 0, none⟩ (.slice p' 1 c')).heap.size (w6.setCell ⟨w.heap.size + 2, 0, none⟩ (.slice p' 1 c')) ((w6.setCell ⟨w.heap.size + 2, 0, none⟩ (.slice p' 1 c')).alloc (.cells #[.slice pq rs.length cq] 54)) := (Below.refl _ _).alloc (Nat.le_refl _) _
      have hx7 := HX6.out.grow bA
      obtain ⟨p8, c8, rfl⟩ := own_slice hown'
      have hs8 := (hgrow.block (w.heap.size + 2) (Nat.lt_of_lt_of_le (show w.heap.size + 2 < w1.heap.size by omega) hx7.sz.2) (fun e => by have := (hx7.fr.row.lt _ e.symm).1; omega)).trans hx7.sys
      have hx8 := hx7.row (HN6.out.grow bA) HFL.out hown' hgrow
      have u1 := heapN_cellj hs8 (k := 1) rfl
      have u2 : w8.frozen? ⟨w.heap.size + 2, 1, none⟩ = false := by simp [World.frozen?, hs8]
      have HX8 := Lib.hid hx8
      clear hown' hgrow bA hx7 hs8 hx8 y0 y1 z0 z1
      go_wp2_with (fail)
      go_roundw
      case rel => exact ⟨1, _, _, _, by go_num, by omega, by rw [HSN.out]; exact HX8⟩
      case measure => simp [intOf]; omega
   ·by_cases hr0 : r.length = 0
    ·have i3 : (r.length : Int) = 0 := by omega
     have i4 : ((r.length : Int) == 0) = true := by simp [hr0]
     obtain rfl : r = [] := List.eq_nil_of_length_eq_zero hr0
     have hrs := HRS.out
     rw [if_pos rfl] at hrs
     subst hrs
     go_wp2_with (fail)
     refine (pt_one _).mono ?_
     rintro e w5 ⟨rfl, hB⟩
     have HZ := Lib.hid (nxo_own (l := [⟨1, 0, 65536, 65536⟩]) (B := w5.heap.size) (v := .slice (some ⟨w5.heap.size, 0, none⟩) 1 1) (W := w5.alloc (.cells #[.int .i64 1, .int .i64 0, .int .i64 65536, .int .i64 65536] 62)) ⟨rfl, .inr ⟨w5.heap.size, 1, _, rfl, Nat.le_refl _, World.alloc_heap_new w5 _, Nat.le_refl _, by decide, rfl, by simp [encN, cr]⟩⟩ (by simp [maxLen]))
     have l5 := heapN_cellj ((HS.out.grow hB).sys) (k := 0) rfl
     have hlt5 : w.heap.size + 2 < w5.heap.size := (Array.getElem?_eq_some_iff.1 (HS.out.grow hB).sys).1
     have HS5 := Lib.hid ((HS.out.grow hB).grow ((Below.refl w5.heap.size w5).alloc (Nat.le_refl _) (.cells #[.int .i64 1, .int .i64 0, .int .i64 65536, .int .i64 65536] 62)))
     clear hB hcq HNQ
     have l0 := heapN_cellj HS5.out.sys (k := 0) rfl
     have hszW := HS5.out.sz.2
     rw [alloc_sz] at hszW
     have hnm := HS5.out.nm
     have HNM := Lib.hid (own_keptN ((hnm.alloc (.cells #[.string ⟨#[120]⟩, .string ⟨#[121]⟩, .string ⟨#[122]⟩, .string ⟨#[117]⟩, .string ⟨#[118]⟩, .string ⟨#[119]⟩] 9)).alloc (.cells #[.string ⟨#[121]⟩] 9)) ((Below.refl _ _).drew))
     have bW : Below (w5.alloc (.cells #[.int .i64 1, .int .i64 0, .int .i64 65536, .int .i64 65536] 62)).heap.size (w5.alloc (.cells #[.int .i64 1, .int .i64 0, .int .i64 65536, .int .i64 65536] 62)) (((w5.alloc (.cells #[.int .i64 1, .int .i64 0, .int .i64 65536, .int .i64 65536] 62)).alloc (.cells #[.string ⟨#[120]⟩, .string ⟨#[121]⟩, .string ⟨#[122]⟩, .string ⟨#[117]⟩, .string ⟨#[118]⟩, .string ⟨#[119]⟩] 9)).alloc (.cells #[.string ⟨#[121]⟩] 9)).drew := (allocs_below [.cells #[.string ⟨#[120]⟩, .string ⟨#[121]⟩, .string ⟨#[122]⟩, .string ⟨#[117]⟩, .string ⟨#[118]⟩, .string ⟨#[119]⟩] 9, .cells #[.string ⟨#[121]⟩] 9] (w5.alloc (.cells #[.int .i64 1, .int .i64 0, .int .i64 65536, .int .i64 65536] 62))).drew
     have HSW := Lib.hid (HS5.out.grow bW)
     have HNW := Lib.hid (HZ.out.grow bW)
     have hnew : ∀ j u, ([Value.string ⟨#[121]⟩] : List Value)[j]? = some u → (((w5.alloc (.cells #[.int .i64 1, .int .i64 0, .int .i64 65536, .int .i64 65536] 62)).alloc (.cells #[.string ⟨#[120]⟩, .string ⟨#[121]⟩, .string ⟨#[122]⟩, .string ⟨#[117]⟩, .string ⟨#[118]⟩, .string ⟨#[119]⟩] 9)).alloc (.cells #[.string ⟨#[121]⟩] 9)).drew.cell? ((⟨w5.heap.size + 1 + 1, 0, none⟩ : Addr).add j) = some u := by
      have h := one_newN ((w5.alloc (.cells #[.int .i64 1, .int .i64 0, .int .i64 65536, .int .i64 65536] 62)).alloc (.cells #[.string ⟨#[120]⟩, .string ⟨#[121]⟩, .string ⟨#[122]⟩, .string ⟨#[117]⟩, .string ⟨#[118]⟩, .string ⟨#[119]⟩] 9)) (.string ⟨#[121]⟩) 9
      rw [alloc_sz, alloc_sz] at h
      exact h
     have HNEW := Lib.hid hnew
     have hWs : (((w5.alloc (.cells #[.int .i64 1, .int .i64 0, .int .i64 65536, .int .i64 65536] 62)).alloc (.cells #[.string ⟨#[120]⟩, .string ⟨#[121]⟩, .string ⟨#[122]⟩, .string ⟨#[117]⟩, .string ⟨#[118]⟩, .string ⟨#[119]⟩] 9)).alloc (.cells #[.string ⟨#[121]⟩] 9)).drew.heap.size = w5.heap.size + 1 + 1 + 1 := by
      show (((w5.alloc (.cells #[.int .i64 1, .int .i64 0, .int .i64 65536, .int .i64 65536] 62)).alloc (.cells #[.string ⟨#[120]⟩, .string ⟨#[121]⟩, .string ⟨#[122]⟩, .string ⟨#[117]⟩, .string ⟨#[118]⟩, .string ⟨#[119]⟩] 9)).alloc (.cells #[.string ⟨#[121]⟩] 9)).heap.size = _
      rw [alloc_sz, alloc_sz, alloc_sz]
     have hltW : w.heap.size + 2 < (w5.alloc (.cells #[.int .i64 1, .int .i64 0, .int .i64 65536, .int .i64 65536] 62)).heap.size := (Array.getElem?_eq_some_iff.1 HS5.out.sys).1
     have lA := heapN_cellj ((HS5.out.grow ((Below.refl (w5.alloc (.cells #[.int .i64 1, .int .i64 0, .int .i64 65536, .int .i64 65536] 62)).heap.size (w5.alloc (.cells #[.int .i64 1, .int .i64 0, .int .i64 65536, .int .i64 65536] 62))).alloc (Nat.le_refl _) (.cells #[.string ⟨#[120]⟩, .string ⟨#[121]⟩, .string ⟨#[122]⟩, .string ⟨#[117]⟩, .string ⟨#[118]⟩, .string ⟨#[119]⟩] 9))).sys) (k := 0) rfl
     have lB := heapN_cellj (HSW.out.sys) (k := 0) rfl
     clear hnm bW hnew
     go_wp2_with (fail)
     go_region_law (go_loud (refine step_append_ownN rfl (.tmp 27) (.tmp 32) 35 rfl w1.heap.size 9 i0 (.string ByteArray.empty) 1 16 Try.underlying35 hi hz0 hz1 hz2 rfl (by decide) (.slice pn 1 cn) 1 _ (by simp [Act.eval, Act.put]) HNM.out ⟨w5.heap.size + 1 + 1, 0, none⟩ 1 1 [.string ⟨#[121]⟩] (by simp [Act.eval, Act.put]) rfl HNEW.out (one_str _) (by unfold maxLen; omega) (by omega) (by omega) (by decide) ?_); intro p' c' w6 hown' hgrow hat; have hs6 := (hgrow.block _ (by have := HSW.out.sz; omega) (fun e => by have := (HSW.out.nm.lt _ e.symm).1; have := HSW.out.sz; omega)).trans HSW.out.sys; have y0 := heapN_cellj hs6 (k := 0) rfl; have z0 : w6.frozen? ⟨w.heap.size + 2, 0, none⟩ = false := (by simp [World.frozen?, hs6]); have y1 := heapN_cellj hs6 (k := 1) rfl; have z1 : w6.frozen? ⟨w.heap.size + 2, 1, none⟩ = false := (by simp [World.frozen?, hs6]))
     all_goals
      have hx6 := HSW.out.name hown' hgrow
      have HN6 := Lib.hid (nxo_setT (nxo_str HNW.out HSW.out.nm hgrow) hs6 (by decide) 0 (.slice p' 2 c'))
      have HX6 := Lib.hid hx6
      clear hown' hgrow hat hs6 hx6 l0 lA lB
      have hrw := HX6.out.fr.row
      rw [HFL.out] at hrw
      have HRW := Lib.hid hrw
      have hnw : ∀ j u, ([.slice (some ⟨w5.heap.size, 0, none⟩) 1 1] : List Value)[j]? = some u → ((w6.setCell ⟨w.heap.size + 2, 0, none⟩ (.slice p' 2 c')).alloc (.cells #[.slice (some ⟨w5.heap.size, 0, none⟩) 1 1] 54)).cell? ((⟨w6.heap.size, 0, none⟩ : Addr).add j) = some u := by
       have h := one_newN (w6.setCell ⟨w.heap.size + 2, 0, none⟩ (.slice p' 2 c')) (.slice (some ⟨w5.heap.size, 0, none⟩) 1 1) 54
       rw [size_setN] at h
       exact h
      have HNW2 := Lib.hid hnw
      have hs66 : w1.heap.size ≤ w6.heap.size := by have h := HX6.out.sz.2; rw [size_setN] at h; exact h
      clear hrw hnw
      go_wp2_with (at_builtin; go_loud (refine wpList_append_own _ rfl (.tmp 36) (.tmp 38) 36 rfl w1.heap.size 54 i1 (.slice none 0 0) 1 24 Try.underlying36 hi1 hy0 hy1 hy2 rfl (by decide) (.slice pf 1 cf) 1 us2 rfl (HRW.out.alloc _) ⟨w6.heap.size, 0, none⟩ 1 1 [.slice (some ⟨w5.heap.size, 0, none⟩) 1 1] rfl rfl HNW2.out (one_any _ _ _ _ rfl) (by unfold maxLen; omega) (by omega) (by rw [alloc_sz, size_setN]; omega) ?_))
      intro v' w8 hown' hgrow _
      have bA : Below (w6.setCell ⟨w.heap.size + 2, 0, none⟩ (.slice p' 2 c')).heap.size (w6.setCell ⟨w.heap.size + 2, 0, none⟩ (.slice p' 2 c')) ((w6.setCell ⟨w.heap.size + 2, 0, none⟩ (.slice p' 2 c')).alloc (.cells #[.slice (some ⟨w5.heap.size, 0, none⟩) 1 1] 54)) := (Below.refl _ _).alloc (Nat.le_refl _) _
      have hx7 := HX6.out.grow bA
      obtain ⟨p8, c8, rfl⟩ := own_slice hown'
      have hs8 := (hgrow.block (w.heap.size + 2) (Nat.lt_of_lt_of_le (show w.heap.size + 2 < w1.heap.size by omega) hx7.sz.2) (fun e => by have := (hx7.fr.row.lt _ e.symm).1; omega)).trans hx7.sys
      have hx8 := hx7.row (HN6.out.grow bA) HFL.out hown' hgrow
      have u1 := heapN_cellj hs8 (k := 1) rfl
      have u2 : w8.frozen? ⟨w.heap.size + 2, 1, none⟩ = false := by simp [World.frozen?, hs8]
      have HX8 := Lib.hid hx8
      clear hown' hgrow bA hx7 hs8 hx8 y0 y1 z0 z1
      go_wp2_with (fail)
      go_roundw
      case rel => exact ⟨2, _, _, _, by go_num, by omega, by rw [HSN.out]; exact HX8⟩
      case measure => simp [intOf]; omega
    ·have i4 : ((r.length : Int) == 0) = false := by simpa using (show (r.length : Int) ≠ 0 by omega)
     have hrs := HRS.out
     rw [if_neg (by rintro rfl; simp at hr0)] at hrs
     subst hrs
     have l0 := heapN_cellj HS.out.sys (k := 0) rfl
     have hnm := HS.out.nm
     have HNM := Lib.hid (own_keptN ((hnm.alloc (.cells #[.string ⟨#[120]⟩, .string ⟨#[121]⟩, .string ⟨#[122]⟩, .string ⟨#[117]⟩, .string ⟨#[118]⟩, .string ⟨#[119]⟩] 9)).alloc (.cells #[.string ⟨#[121]⟩] 9)) ((Below.refl _ _).drew))
     have bW : Below wr.heap.size wr ((wr.alloc (.cells #[.string ⟨#[120]⟩, .string ⟨#[121]⟩, .string ⟨#[122]⟩, .string ⟨#[117]⟩, .string ⟨#[118]⟩, .string ⟨#[119]⟩] 9)).alloc (.cells #[.string ⟨#[121]⟩] 9)).drew := (allocs_below [.cells #[.string ⟨#[120]⟩, .string ⟨#[121]⟩, .string ⟨#[122]⟩, .string ⟨#[117]⟩, .string ⟨#[118]⟩, .string ⟨#[119]⟩] 9, .cells #[.string ⟨#[121]⟩] 9] wr).drew
     have HSW := Lib.hid (HS.out.grow bW)
     have HNW := Lib.hid (HNQ.out.grow bW)
     have hnew : ∀ j u, ([Value.string ⟨#[121]⟩] : List Value)[j]? = some u → ((wr.alloc (.cells #[.string ⟨#[120]⟩, .string ⟨#[121]⟩, .string ⟨#[122]⟩, .string ⟨#[117]⟩, .string ⟨#[118]⟩, .string ⟨#[119]⟩] 9)).alloc (.cells #[.string ⟨#[121]⟩] 9)).drew.cell? ((⟨wr.heap.size + 1, 0, none⟩ : Addr).add j) = some u := by
      have h := one_newN (wr.alloc (.cells #[.string ⟨#[120]⟩, .string ⟨#[121]⟩, .string ⟨#[122]⟩, .string ⟨#[117]⟩, .string ⟨#[118]⟩, .string ⟨#[119]⟩] 9)) (.string ⟨#[121]⟩) 9
      rw [alloc_sz] at h
      exact h
     have HNEW := Lib.hid hnew
     have hWs : ((wr.alloc (.cells #[.string ⟨#[120]⟩, .string ⟨#[121]⟩, .string ⟨#[122]⟩, .string ⟨#[117]⟩, .string ⟨#[118]⟩, .string ⟨#[119]⟩] 9)).alloc (.cells #[.string ⟨#[121]⟩] 9)).drew.heap.size = wr.heap.size + 1 + 1 := by
      show ((wr.alloc (.cells #[.string ⟨#[120]⟩, .string ⟨#[121]⟩, .string ⟨#[122]⟩, .string ⟨#[117]⟩, .string ⟨#[118]⟩, .string ⟨#[119]⟩] 9)).alloc (.cells #[.string ⟨#[121]⟩] 9)).heap.size = _
      rw [alloc_sz, alloc_sz]
     have hltW : w.heap.size + 2 < wr.heap.size := (Array.getElem?_eq_some_iff.1 HS.out.sys).1
     have lA := heapN_cellj ((HS.out.grow ((Below.refl wr.heap.size wr).alloc (Nat.le_refl _) (.cells #[.string ⟨#[120]⟩, .string ⟨#[121]⟩, .string ⟨#[122]⟩, .string ⟨#[117]⟩, .string ⟨#[118]⟩, .string ⟨#[119]⟩] 9))).sys) (k := 0) rfl
     have lB := heapN_cellj (HSW.out.sys) (k := 0) rfl
     clear hnm bW hnew
     go_wp2_with (fail)
     go_region_law (go_loud (refine step_append_ownN rfl (.tmp 27) (.tmp 32) 35 rfl w1.heap.size 9 i0 (.string ByteArray.empty) 1 16 Try.underlying35 hi hz0 hz1 hz2 rfl (by decide) (.slice pn 1 cn) 1 _ (by simp [Act.eval, Act.put]) HNM.out ⟨wr.heap.size + 1, 0, none⟩ 1 1 [.string ⟨#[121]⟩] (by simp [Act.eval, Act.put]) rfl HNEW.out (one_str _) (by unfold maxLen; omega) (by omega) (by omega) (by decide) ?_); intro p' c' w6 hown' hgrow hat; have hs6 := (hgrow.block _ (by have := HSW.out.sz; omega) (fun e => by have := (HSW.out.nm.lt _ e.symm).1; have := HSW.out.sz; omega)).trans HSW.out.sys; have y0 := heapN_cellj hs6 (k := 0) rfl; have z0 : w6.frozen? ⟨w.heap.size + 2, 0, none⟩ = false := (by simp [World.frozen?, hs6]); have y1 := heapN_cellj hs6 (k := 1) rfl; have z1 : w6.frozen? ⟨w.heap.size + 2, 1, none⟩ = false := (by simp [World.frozen?, hs6]))
     all_goals
      have hx6 := HSW.out.name hown' hgrow
      have HN6 := Lib.hid (nxo_setT (nxo_str HNW.out HSW.out.nm hgrow) hs6 (by decide) 0 (.slice p' 2 c'))
      have HX6 := Lib.hid hx6
      clear hown' hgrow hat hs6 hx6 l0 lA lB
      have hrw := HX6.out.fr.row
      rw [HFL.out] at hrw
      have HRW := Lib.hid hrw
      have hnw : ∀ j u, ([.slice pq rs.length cq] : List Value)[j]? = some u → ((w6.setCell ⟨w.heap.size + 2, 0, none⟩ (.slice p' 2 c')).alloc (.cells #[.slice pq rs.length cq] 54)).cell? ((⟨w6.heap.size, 0, none⟩ : Addr).add j) = some u := by
       have h := one_newN (w6.setCell ⟨w.heap.size + 2, 0, none⟩ (.slice p' 2 c')) (.slice pq rs.length cq) 54
       rw [size_setN] at h
       exact h
      have HNW2 := Lib.hid hnw
      have hs66 : w1.heap.size ≤ w6.heap.size := by have h := HX6.out.sz.2; rw [size_setN] at h; exact h
      clear hrw hnw
      go_wp2_with (at_builtin; go_loud (refine wpList_append_own _ rfl (.tmp 36) (.tmp 38) 36 rfl w1.heap.size 54 i1 (.slice none 0 0) 1 24 Try.underlying36 hi1 hy0 hy1 hy2 rfl (by decide) (.slice pf 1 cf) 1 us2 rfl (HRW.out.alloc _) ⟨w6.heap.size, 0, none⟩ 1 1 [.slice pq rs.length cq] rfl rfl HNW2.out (one_any _ _ _ _ rfl) (by unfold maxLen; omega) (by omega) (by rw [alloc_sz, size_setN]; omega) ?_))
      intro v' w8 hown' hgrow _
      have bA : Below (w6.setCell ⟨w.heap.size + 2, 0, none⟩ (.slice p' 2 c')).heap.size (w6.setCell ⟨w.heap.size + 2, 0, none⟩ (.slice p' 2 c')) ((w6.setCell ⟨w.heap.size + 2, 0, none⟩ (.slice p' 2 c')).alloc (.cells #[.slice pq rs.length cq] 54)) := (Below.refl _ _).alloc (Nat.le_refl _) _
      have hx7 := HX6.out.grow bA
      obtain ⟨p8, c8, rfl⟩ := own_slice hown'
      have hs8 := (hgrow.block (w.heap.size + 2) (Nat.lt_of_lt_of_le (show w.heap.size + 2 < w1.heap.size by omega) hx7.sz.2) (fun e => by have := (hx7.fr.row.lt _ e.symm).1; omega)).trans hx7.sys
      have hx8 := hx7.row (HN6.out.grow bA) HFL.out hown' hgrow
      have u1 := heapN_cellj hs8 (k := 1) rfl
      have u2 : w8.frozen? ⟨w.heap.size + 2, 1, none⟩ = false := by simp [World.frozen?, hs8]
      have HX8 := Lib.hid hx8
      clear hown' hgrow bA hx7 hs8 hx8 y0 y1 z0 z1
      go_wp2_with (fail)
      go_roundw
      case rel => exact ⟨2, _, _, _, by go_num, by omega, by rw [HSN.out]; exact HX8⟩
      case measure => simp [intOf]; omega
   ·by_cases hr0 : r.length = 0
    ·have i3 : (r.length : Int) = 0 := by omega
     have i4 : ((r.length : Int) == 0) = true := by simp [hr0]
     obtain rfl : r = [] := List.eq_nil_of_length_eq_zero hr0
     have hrs := HRS.out
     rw [if_pos rfl] at hrs
     subst hrs
     go_wp2_with (fail)
     refine (pt_one _).mono ?_
     rintro e w5 ⟨rfl, hB⟩
     have HZ := Lib.hid (nxo_own (l := [⟨1, 0, 65536, 65536⟩]) (B := w5.heap.size) (v := .slice (some ⟨w5.heap.size, 0, none⟩) 1 1) (W := w5.alloc (.cells #[.int .i64 1, .int .i64 0, .int .i64 65536, .int .i64 65536] 62)) ⟨rfl, .inr ⟨w5.heap.size, 1, _, rfl, Nat.le_refl _, World.alloc_heap_new w5 _, Nat.le_refl _, by decide, rfl, by simp [encN, cr]⟩⟩ (by simp [maxLen]))
     have l5 := heapN_cellj ((HS.out.grow hB).sys) (k := 0) rfl
     have hlt5 : w.heap.size + 2 < w5.heap.size := (Array.getElem?_eq_some_iff.1 (HS.out.grow hB).sys).1
     have HS5 := Lib.hid ((HS.out.grow hB).grow ((Below.refl w5.heap.size w5).alloc (Nat.le_refl _) (.cells #[.int .i64 1, .int .i64 0, .int .i64 65536, .int .i64 65536] 62)))
     clear hB hcq HNQ
     have l0 := heapN_cellj HS5.out.sys (k := 0) rfl
     have hszW := HS5.out.sz.2
     rw [alloc_sz] at hszW
     have hnm := HS5.out.nm
     have HNM := Lib.hid (own_keptN ((hnm.alloc (.cells #[.string ⟨#[120]⟩, .string ⟨#[121]⟩, .string ⟨#[122]⟩, .string ⟨#[117]⟩, .string ⟨#[118]⟩, .string ⟨#[119]⟩] 9)).alloc (.cells #[.string ⟨#[122]⟩] 9)) ((Below.refl _ _).drew))
     have bW : Below (w5.alloc (.cells #[.int .i64 1, .int .i64 0, .int .i64 65536, .int .i64 65536] 62)).heap.size (w5.alloc (.cells #[.int .i64 1, .int .i64 0, .int .i64 65536, .int .i64 65536] 62)) (((w5.alloc (.cells #[.int .i64 1, .int .i64 0, .int .i64 65536, .int .i64 65536] 62)).alloc (.cells #[.string ⟨#[120]⟩, .string ⟨#[121]⟩, .string ⟨#[122]⟩, .string ⟨#[117]⟩, .string ⟨#[118]⟩, .string ⟨#[119]⟩] 9)).alloc (.cells #[.string ⟨#[122]⟩] 9)).drew := (allocs_below [.cells #[.string ⟨#[120]⟩, .string ⟨#[121]⟩, .string ⟨#[122]⟩, .string ⟨#[117]⟩, .string ⟨#[118]⟩, .string ⟨#[119]⟩] 9, .cells #[.string ⟨#[122]⟩] 9] (w5.alloc (.cells #[.int .i64 1, .int .i64 0, .int .i64 65536, .int .i64 65536] 62))).drew
     have HSW := Lib.hid (HS5.out.grow bW)
     have HNW := Lib.hid (HZ.out.grow bW)
     have hnew : ∀ j u, ([Value.string ⟨#[122]⟩] : List Value)[j]? = some u → (((w5.alloc (.cells #[.int .i64 1, .int .i64 0, .int .i64 65536, .int .i64 65536] 62)).alloc (.cells #[.string ⟨#[120]⟩, .string ⟨#[121]⟩, .string ⟨#[122]⟩, .string ⟨#[117]⟩, .string ⟨#[118]⟩, .string ⟨#[119]⟩] 9)).alloc (.cells #[.string ⟨#[122]⟩] 9)).drew.cell? ((⟨w5.heap.size + 1 + 1, 0, none⟩ : Addr).add j) = some u := by
      have h := one_newN ((w5.alloc (.cells #[.int .i64 1, .int .i64 0, .int .i64 65536, .int .i64 65536] 62)).alloc (.cells #[.string ⟨#[120]⟩, .string ⟨#[121]⟩, .string ⟨#[122]⟩, .string ⟨#[117]⟩, .string ⟨#[118]⟩, .string ⟨#[119]⟩] 9)) (.string ⟨#[122]⟩) 9
      rw [alloc_sz, alloc_sz] at h
      exact h
     have HNEW := Lib.hid hnew
     have hWs : (((w5.alloc (.cells #[.int .i64 1, .int .i64 0, .int .i64 65536, .int .i64 65536] 62)).alloc (.cells #[.string ⟨#[120]⟩, .string ⟨#[121]⟩, .string ⟨#[122]⟩, .string ⟨#[117]⟩, .string ⟨#[118]⟩, .string ⟨#[119]⟩] 9)).alloc (.cells #[.string ⟨#[122]⟩] 9)).drew.heap.size = w5.heap.size + 1 + 1 + 1 := by
      show (((w5.alloc (.cells #[.int .i64 1, .int .i64 0, .int .i64 65536, .int .i64 65536] 62)).alloc (.cells #[.string ⟨#[120]⟩, .string ⟨#[121]⟩, .string ⟨#[122]⟩, .string ⟨#[117]⟩, .string ⟨#[118]⟩, .string ⟨#[119]⟩] 9)).alloc (.cells #[.string ⟨#[122]⟩] 9)).heap.size = _
      rw [alloc_sz, alloc_sz, alloc_sz]
     have hltW : w.heap.size + 2 < (w5.alloc (.cells #[.int .i64 1, .int .i64 0, .int .i64 65536, .int .i64 65536] 62)).heap.size := (Array.getElem?_eq_some_iff.1 HS5.out.sys).1
     have lA := heapN_cellj ((HS5.out.grow ((Below.refl (w5.alloc (.cells #[.int .i64 1, .int .i64 0, .int .i64 65536, .int .i64 65536] 62)).heap.size (w5.alloc (.cells #[.int .i64 1, .int .i64 0, .int .i64 65536, .int .i64 65536] 62))).alloc (Nat.le_refl _) (.cells #[.string ⟨#[120]⟩, .string ⟨#[121]⟩, .string ⟨#[122]⟩, .string ⟨#[117]⟩, .string ⟨#[118]⟩, .string ⟨#[119]⟩] 9))).sys) (k := 0) rfl
     have lB := heapN_cellj (HSW.out.sys) (k := 0) rfl
     clear hnm bW hnew
     go_wp2_with (fail)
     go_region_law (go_loud (refine step_append_ownN rfl (.tmp 27) (.tmp 32) 35 rfl w1.heap.size 9 i0 (.string ByteArray.empty) 1 16 Try.underlying35 hi hz0 hz1 hz2 rfl (by decide) (.slice pn 2 cn) 2 _ (by simp [Act.eval, Act.put]) HNM.out ⟨w5.heap.size + 1 + 1, 0, none⟩ 1 1 [.string ⟨#[122]⟩] (by simp [Act.eval, Act.put]) rfl HNEW.out (one_str _) (by unfold maxLen; omega) (by omega) (by omega) (by decide) ?_); intro p' c' w6 hown' hgrow hat; have hs6 := (hgrow.block _ (by have := HSW.out.sz; omega) (fun e => by have := (HSW.out.nm.lt _ e.symm).1; have := HSW.out.sz; omega)).trans HSW.out.sys; have y0 := heapN_cellj hs6 (k := 0) rfl; have z0 : w6.frozen? ⟨w.heap.size + 2, 0, none⟩ = false := (by simp [World.frozen?, hs6]); have y1 := heapN_cellj hs6 (k := 1) rfl; have z1 : w6.frozen? ⟨w.heap.size + 2, 1, none⟩ = false := (by simp [World.frozen?, hs6]))
     all_goals
      have hx6 := HSW.out.name hown' hgrow
      have HN6 := Lib.hid (nxo_setT (nxo_str HNW.out HSW.out.nm hgrow) hs6 (by decide) 0 (.slice p' 3 c'))
      have HX6 := Lib.hid hx6
      clear hown' hgrow hat hs6 hx6 l0 lA lB
      have hrw := HX6.out.fr.row
      rw [HFL.out] at hrw
      have HRW := Lib.hid hrw
      have hnw : ∀ j u, ([.slice (some ⟨w5.heap.size, 0, none⟩) 1 1] : List Value)[j]? = some u → ((w6.setCell ⟨w.heap.size + 2, 0, none⟩ (.slice p' 3 c')).alloc (.cells #[.slice (some ⟨w5.heap.size, 0, none⟩) 1 1] 54)).cell? ((⟨w6.heap.size, 0, none⟩ : Addr).add j) = some u := by
       have h := one_newN (w6.setCell ⟨w.heap.size + 2, 0, none⟩ (.slice p' 3 c')) (.slice (some ⟨w5.heap.size, 0, none⟩) 1 1) 54
       rw [size_setN] at h
       exact h
      have HNW2 := Lib.hid hnw
      have hs66 : w1.heap.size ≤ w6.heap.size := by have h := HX6.out.sz.2; rw [size_setN] at h; exact h
      clear hrw hnw
      go_wp2_with (at_builtin; go_loud (refine wpList_append_own _ rfl (.tmp 36) (.tmp 38) 36 rfl w1.heap.size 54 i1 (.slice none 0 0) 1 24 Try.underlying36 hi1 hy0 hy1 hy2 rfl (by decide) (.slice pf 2 cf) 2 us2 rfl (HRW.out.alloc _) ⟨w6.heap.size, 0, none⟩ 1 1 [.slice (some ⟨w5.heap.size, 0, none⟩) 1 1] rfl rfl HNW2.out (one_any _ _ _ _ rfl) (by unfold maxLen; omega) (by omega) (by rw [alloc_sz, size_setN]; omega) ?_))
      intro v' w8 hown' hgrow _
      have bA : Below (w6.setCell ⟨w.heap.size + 2, 0, none⟩ (.slice p' 3 c')).heap.size (w6.setCell ⟨w.heap.size + 2, 0, none⟩ (.slice p' 3 c')) ((w6.setCell ⟨w.heap.size + 2, 0, none⟩ (.slice p' 3 c')).alloc (.cells #[.slice (some ⟨w5.heap.size, 0, none⟩) 1 1] 54)) := (Below.refl _ _).alloc (Nat.le_refl _) _
      have hx7 := HX6.out.grow bA
      obtain ⟨p8, c8, rfl⟩ := own_slice hown'
      have hs8 := (hgrow.block (w.heap.size + 2) (Nat.lt_of_lt_of_le (show w.heap.size + 2 < w1.heap.size by omega) hx7.sz.2) (fun e => by have := (hx7.fr.row.lt _ e.symm).1; omega)).trans hx7.sys
      have hx8 := hx7.row (HN6.out.grow bA) HFL.out hown' hgrow
      have u1 := heapN_cellj hs8 (k := 1) rfl
      have u2 : w8.frozen? ⟨w.heap.size + 2, 1, none⟩ = false := by simp [World.frozen?, hs8]
      have HX8 := Lib.hid hx8
      clear hown' hgrow bA hx7 hs8 hx8 y0 y1 z0 z1
      go_wp2_with (fail)
      go_roundw
      case rel => exact ⟨3, _, _, _, by go_num, by omega, by rw [HSN.out]; exact HX8⟩
      case measure => simp [intOf]; omega
    ·have i4 : ((r.length : Int) == 0) = false := by simpa using (show (r.length : Int) ≠ 0 by omega)
     have hrs := HRS.out
     rw [if_neg (by rintro rfl; simp at hr0)] at hrs
     subst hrs
     have l0 := heapN_cellj HS.out.sys (k := 0) rfl
     have hnm := HS.out.nm
     have HNM := Lib.hid (own_keptN ((hnm.alloc (.cells #[.string ⟨#[120]⟩, .string ⟨#[121]⟩, .string ⟨#[122]⟩, .string ⟨#[117]⟩, .string ⟨#[118]⟩, .string ⟨#[119]⟩] 9)).alloc (.cells #[.string ⟨#[122]⟩] 9)) ((Below.refl _ _).drew))
     have bW : Below wr.heap.size wr ((wr.alloc (.cells #[.string ⟨#[120]⟩, .string ⟨#[121]⟩, .string ⟨#[122]⟩, .string ⟨#[117]⟩, .string ⟨#[118]⟩, .string ⟨#[119]⟩] 9)).alloc (.cells #[.string ⟨#[122]⟩] 9)).drew := (allocs_below [.cells #[.string ⟨#[120]⟩, .string ⟨#[121]⟩, .string ⟨#[122]⟩, .string ⟨#[117]⟩, .string ⟨#[118]⟩, .string ⟨#[119]⟩] 9, .cells #[.string ⟨#[122]⟩] 9] wr).drew
     have HSW := Lib.hid (HS.out.grow bW)
     have HNW := Lib.hid (HNQ.out.grow bW)
     have hnew : ∀ j u, ([Value.string ⟨#[122]⟩] : List Value)[j]? = some u → ((wr.alloc (.cells #[.string ⟨#[120]⟩, .string ⟨#[121]⟩, .string ⟨#[122]⟩, .string ⟨#[117]⟩, .string ⟨#[118]⟩, .string ⟨#[119]⟩] 9)).alloc (.cells #[.string ⟨#[122]⟩] 9)).drew.cell? ((⟨wr.heap.size + 1, 0, none⟩ : Addr).add j) = some u := by
      have h := one_newN (wr.alloc (.cells #[.string ⟨#[120]⟩, .string ⟨#[121]⟩, .string ⟨#[122]⟩, .string ⟨#[117]⟩, .string ⟨#[118]⟩, .string ⟨#[119]⟩] 9)) (.string ⟨#[122]⟩) 9
      rw [alloc_sz] at h
      exact h
     have HNEW := Lib.hid hnew
     have hWs : ((wr.alloc (.cells #[.string ⟨#[120]⟩, .string ⟨#[121]⟩, .string ⟨#[122]⟩, .string ⟨#[117]⟩, .string ⟨#[118]⟩, .string ⟨#[119]⟩] 9)).alloc (.cells #[.string ⟨#[122]⟩] 9)).drew.heap.size = wr.heap.size + 1 + 1 := by
      show ((wr.alloc (.cells #[.string ⟨#[120]⟩, .string ⟨#[121]⟩, .string ⟨#[122]⟩, .string ⟨#[117]⟩, .string ⟨#[118]⟩, .string ⟨#[119]⟩] 9)).alloc (.cells #[.string ⟨#[122]⟩] 9)).heap.size = _
      rw [alloc_sz, alloc_sz]
     have hltW : w.heap.size + 2 < wr.heap.size := (Array.getElem?_eq_some_iff.1 HS.out.sys).1
     have lA := heapN_cellj ((HS.out.grow ((Below.refl wr.heap.size wr).alloc (Nat.le_refl _) (.cells #[.string ⟨#[120]⟩, .string ⟨#[121]⟩, .string ⟨#[122]⟩, .string ⟨#[117]⟩, .string ⟨#[118]⟩, .string ⟨#[119]⟩] 9))).sys) (k := 0) rfl
     have lB := heapN_cellj (HSW.out.sys) (k := 0) rfl
     clear hnm bW hnew
     go_wp2_with (fail)
     go_region_law (go_loud (refine step_append_ownN rfl (.tmp 27) (.tmp 32) 35 rfl w1.heap.size 9 i0 (.string ByteArray.empty) 1 16 Try.underlying35 hi hz0 hz1 hz2 rfl (by decide) (.slice pn 2 cn) 2 _ (by simp [Act.eval, Act.put]) HNM.out ⟨wr.heap.size + 1, 0, none⟩ 1 1 [.string ⟨#[122]⟩] (by simp [Act.eval, Act.put]) rfl HNEW.out (one_str _) (by unfold maxLen; omega) (by omega) (by omega) (by decide) ?_); intro p' c' w6 hown' hgrow hat; have hs6 := (hgrow.block _ (by have := HSW.out.sz; omega) (fun e => by have := (HSW.out.nm.lt _ e.symm).1; have := HSW.out.sz; omega)).trans HSW.out.sys; have y0 := heapN_cellj hs6 (k := 0) rfl; have z0 : w6.frozen? ⟨w.heap.size + 2, 0, none⟩ = false := (by simp [World.frozen?, hs6]); have y1 := heapN_cellj hs6 (k := 1) rfl; have z1 : w6.frozen? ⟨w.heap.size + 2, 1, none⟩ = false := (by simp [World.frozen?, hs6]))
     all_goals
      have hx6 := HSW.out.name hown' hgrow
      have HN6 := Lib.hid (nxo_setT (nxo_str HNW.out HSW.out.nm hgrow) hs6 (by decide) 0 (.slice p' 3 c'))
      have HX6 := Lib.hid hx6
      clear hown' hgrow hat hs6 hx6 l0 lA lB
      have hrw := HX6.out.fr.row
      rw [HFL.out] at hrw
      have HRW := Lib.hid hrw
      have hnw : ∀ j u, ([.slice pq rs.length cq] : List Value)[j]? = some u → ((w6.setCell ⟨w.heap.size + 2, 0, none⟩ (.slice p' 3 c')).alloc (.cells #[.slice pq rs.length cq] 54)).cell? ((⟨w6.heap.size, 0, none⟩ : Addr).add j) = some u := by
       have h := one_newN (w6.setCell ⟨w.heap.size + 2, 0, none⟩ (.slice p' 3 c')) (.slice pq rs.length cq) 54
       rw [size_setN] at h
       exact h
      have HNW2 := Lib.hid hnw
      have hs66 : w1.heap.size ≤ w6.heap.size := by have h := HX6.out.sz.2; rw [size_setN] at h; exact h
      clear hrw hnw
      go_wp2_with (at_builtin; go_loud (refine wpList_append_own _ rfl (.tmp 36) (.tmp 38) 36 rfl w1.heap.size 54 i1 (.slice none 0 0) 1 24 Try.underlying36 hi1 hy0 hy1 hy2 rfl (by decide) (.slice pf 2 cf) 2 us2 rfl (HRW.out.alloc _) ⟨w6.heap.size, 0, none⟩ 1 1 [.slice pq rs.length cq] rfl rfl HNW2.out (one_any _ _ _ _ rfl) (by unfold maxLen; omega) (by omega) (by rw [alloc_sz, size_setN]; omega) ?_))
      intro v' w8 hown' hgrow _
      have bA : Below (w6.setCell ⟨w.heap.size + 2, 0, none⟩ (.slice p' 3 c')).heap.size (w6.setCell ⟨w.heap.size + 2, 0, none⟩ (.slice p' 3 c')) ((w6.setCell ⟨w.heap.size + 2, 0, none⟩ (.slice p' 3 c')).alloc (.cells #[.slice pq rs.length cq] 54)) := (Below.refl _ _).alloc (Nat.le_refl _) _
      have hx7 := HX6.out.grow bA
      obtain ⟨p8, c8, rfl⟩ := own_slice hown'
      have hs8 := (hgrow.block (w.heap.size + 2) (Nat.lt_of_lt_of_le (show w.heap.size + 2 < w1.heap.size by omega) hx7.sz.2) (fun e => by have := (hx7.fr.row.lt _ e.symm).1; omega)).trans hx7.sys
      have hx8 := hx7.row (HN6.out.grow bA) HFL.out hown' hgrow
      have u1 := heapN_cellj hs8 (k := 1) rfl
      have u2 : w8.frozen? ⟨w.heap.size + 2, 1, none⟩ = false := by simp [World.frozen?, hs8]
      have HX8 := Lib.hid hx8
      clear hown' hgrow bA hx7 hs8 hx8 y0 y1 z0 z1
      go_wp2_with (fail)
      go_roundw
      case rel => exact ⟨3, _, _, _, by go_num, by omega, by rw [HSN.out]; exact HX8⟩
      case measure => simp [intOf]; omega
  ·obtain rfl : k = out.length := by omega
   have i2 : ¬ (out.length : Int) < out.length := by omega
   have r0 := heapN_cellj HS.out.sys (k := 0) rfl
   have r1 := heapN_cellj HS.out.sys (k := 1) rfl
   have t0 := heapN_cellj HS.out.res (k := 0) rfl
   have t1 := heapN_cellj HS.out.res (k := 1) rfl
   have z0 : wr.frozen? ⟨w.heap.size + 1, 0, none⟩ = false := by simp [World.frozen?, HS.out.res]
   have z1 : wr.frozen? ⟨w.heap.size + 1, 1, none⟩ = false := by simp [World.frozen?, HS.out.res]
   go_wp2_with (fail)
   have hs0 := cellsT_setN (o := 0) (u := .slice pn out.length cn) HS.out.res
   have hs1 := cellsT_setN (o := 1) (u := .slice pf out.length cf) hs0
   have y0 := heapN_cellj hs1 (k := 0) (u := .slice pn out.length cn) rfl
   have y1 := heapN_cellj hs1 (k := 1) (u := .slice pf out.length cf) rfl
   have hnl : (nms.take out.length).length = out.length := by
    rw [List.length_take]
    show min out.length 3 = out.length
    omega
   have hnm := own_setT (own_setT HS.out.nm HS.out.res (by decide) 0 (.slice pn out.length cn)) hs0 (by decide) 1 (.slice pf out.length cf)
   have hfr := HS.out.fr
   rw [List.take_length] at hfr
   have hf2 : OwnL w1.heap.size ((wr.setCell ⟨w.heap.size + 1, 0, none⟩ (.slice pn out.length cn)).setCell ⟨w.heap.size + 1, 1, none⟩ (.slice pf out.length cf)) (.slice pf out.length cf) (out.map (rowS L)) us2 :=
    ⟨own_setT (own_setT hfr.row HS.out.res (by decide) 0 (.slice pn out.length cn)) hs0 (by decide) 1 (.slice pf out.length cf), fun i x l h1 h2 => nxo_setT (nxo_setT (hfr.el i x l h1 h2) HS.out.res (by decide) 0 (.slice pn out.length cn)) hs0 (by decide) 1 (.slice pf out.length cf)⟩
   have hcap : out.length ≤ cn := by
    rcases id HS.out.nm.2 with ⟨e, h0⟩ | ⟨g, cap, cur, e, _, _, hle, _⟩
    ·omega
    ·simp only [Value.slice.injEq] at e
     omega
   have hw1s : w.heap.size ≤ w1.heap.size := by first | omega | (have := HS.out.sz; omega) | exact HS.out.bel.size
   have hsx : Sx ((wr.setCell ⟨w.heap.size + 1, 0, none⟩ (.slice pn out.length cn)).setCell ⟨w.heap.size + 1, 1, none⟩ (.slice pf out.length cf)) (.slice pn out.length cn) (nms.take out.length) := Rx.own encS_len (by rw [hnl]; exact hnm) (by rw [hnl]; unfold maxLen; omega)
   exact bodyPost_ret (v := .agg #[.slice pn out.length cn, .slice pf out.length cf]) (by simp [results, Try.results14, go_sem, y0, y1]) rfl ⟨pn, cn, pf, cf, rfl, own_base hnm hw1s, ⟨us2, own_base hf2.row hw1s, hf2.el⟩, (HS.out.bel.setCell (p := ⟨w.heap.size + 1, 0, none⟩) (by dsimp only; omega) _).setCell (p := ⟨w.heap.size + 1, 1, none⟩) (by dsimp only; omega) _⟩
end Go.Proofs.Ytajddejeglhbhaa
