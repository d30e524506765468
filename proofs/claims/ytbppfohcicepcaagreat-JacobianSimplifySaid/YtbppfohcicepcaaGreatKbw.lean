/-
  Ji Ms
-/
import Derived.Test.YtbppfohcicepcaaGreatKbn
import Derived.Test.YtbppfohcicepcaaGreatKbp
import Derived.Test.YtbppfohcicepcaaGreatKbv
namespace Go.Proofs.YtbppfohcicepcaaGreat
open Go.ChangeShapes Go.WideShapes Go.ChangeAt Go.RowKit
set_option linter.unusedVariables false
set_option linter.unusedSimpArgs false
set_option maxRecDepth 100000
attribute [local irreducible] Calls
open Go.Maps
variable {Fz : Nat}
theorem info_du : (Tryz.prog.info? 96).map (fun i => (i.zero, i.size, i.bytes)) = some (some (.agg #[.pointer none, .pointer none]), 2, 16) := by kernel_rfl
def enc2 (p : Value × Value) : List Value := [p.1, p.2]
theorem enc2_len (p : Value × Value) : (enc2 p).length = 2 := rfl
/-- Duals in a slice. -/
def DuS (Fz : Nat) (w : World) (v : Value) (l : List (Ex × Ex)) : Prop := l.length ≤ maxLen ∧ ∃ p cap, v = .slice p l.length cap ∧
  ∀ k x, l[k]? = some x → ∃ b o u u', p = some ⟨b, o, none⟩ ∧ b < w.heap.size ∧ w.cell? ⟨b, o + 2 * k, none⟩ = some u ∧ w.cell? ⟨b, o + 2 * k + 1, none⟩ = some u' ∧ TmP Fz w u x.1 ∧ TmP Fz w u' x.2
theorem DuS.grow {w w' : World} {v : Value} {l : List (Ex × Ex)} (h : DuS Fz w v l) (hb : Below w.heap.size w w') : DuS Fz w' v l := by
  obtain ⟨h0, p, c, e, hk⟩ := h
  refine ⟨h0, p, c, e, fun k x hx => ?_⟩
  obtain ⟨b, o, u, u', e1, h1, h2, h3, h4, h5⟩ := hk k x hx
  exact ⟨b, o, u, u', e1, Nat.lt_of_lt_of_le h1 hb.size, cell_grow h2 hb, cell_grow h3 hb, h4.grow hb, h5.grow hb⟩
/-- A row of duals of the call's own. -/
structure OwnD (Fz B : Nat) (W : World) (v : Value) (l : List (Ex × Ex)) (us : List (Value × Value)) : Prop where
  row : W.ownsRow B 96 2 v l.length (cr enc2 us)
  len : us.length = l.length
  el : ∀ (k : Nat) (u : Value × Value) (x : Ex × Ex), us[k]? = some u → l[k]? = some x → ∀ W', W.grownBy W' v.ownBlock → TmP Fz W' u.1 x.1 ∧ TmP Fz W' u.2 x.2
section
variable {B : Nat} {W W' : World} {v v' : Value} {u : Value × Value} {l : List (Ex × Ex)} {us : List (Value × Value)} {x : Ex × Ex}
theorem OwnD.grow (h : OwnD Fz B W v l us) (hB : Below W.heap.size W W') : OwnD Fz B W' v l us :=
  ⟨own_keptN h.row hB, h.len, fun k u x h1 h2 W2 h3 => h.el k u x h1 h2 W2 ⟨h3.os.trans hB.os, h3.tape.trans hB.tape, h3.output.trans hB.output, Nat.le_trans hB.size h3.size, fun k hk hn => (h3.block k (Nat.lt_of_lt_of_le hk hB.size) hn).trans (hB.block k hk)⟩⟩
theorem OwnD.push (h : OwnD Fz B W v l us) (hu : ∀ W', W.grownBy W' v.ownBlock → TmP Fz W' u.1 x.1 ∧ TmP Fz W' u.2 x.2) (hr : W'.ownsRow B 96 2 v' (l.length + 1) (cr enc2 us ++ enc2 u)) (hg : W.grownBy W' v.ownBlock) (hat : v'.ownBlock = v.ownBlock ∨ v'.ownBlock = some W.heap.size) : OwnD Fz B W' v' (l ++ [x]) (us ++ [u]) := by
  refine ⟨by rw [List.length_append, cr_snoc]; exact hr, by simp [h.len], fun k u' x' h1 h2 W2 h3 => ?_⟩
  have h4 : W.grownBy W2 v.ownBlock := by
    refine ⟨h3.os.trans hg.os, h3.tape.trans hg.tape, h3.output.trans hg.output, Nat.le_trans hg.size h3.size, fun k hk hn => ?_⟩
    refine (h3.block k (Nat.lt_of_lt_of_le hk hg.size) ?_).trans (hg.block k hk hn)
    rcases hat with e | e
    · rw [e]; exact hn
    · rw [e]; intro e2; have := Option.some.inj e2; omega
  have hl := h.len
  by_cases hk : k < l.length
  · rw [List.getElem?_append_left (by omega)] at h1
    rw [List.getElem?_append_left hk] at h2
    exact h.el k u' x' h1 h2 W2 h4
  · have hk2 : k = l.length := by
      have := (List.getElem?_eq_some_iff.1 h2).1
      simp at this
      omega
    subst hk2
    rw [List.getElem?_append_right (by omega), hl, Nat.sub_self] at h1
    rw [List.getElem?_append_right (by omega), Nat.sub_self] at h2
    cases h1
    cases h2
    exact hu W2 h4
theorem OwnD.dus (h : OwnD Fz B W v l us) (hl : l.length ≤ maxLen) : DuS Fz W v l := by
  have hlen := h.len
  refine ⟨hl, ?_⟩
  have hgr : W.grownBy W v.ownBlock := ⟨rfl, rfl, rfl, Nat.le_refl _, fun _ _ _ => rfl⟩
  have hrx : Rx enc2 2 W v us := Rx.own enc2_len (by rw [hlen]; exact h.row) (by omega)
  obtain ⟨_, p, c, e, hk⟩ := hrx
  rw [hlen] at e
  refine ⟨p, c, e, fun k x hx => ?_⟩
  have hk1 := (List.getElem?_eq_some_iff.1 hx).1
  have hku : k < us.length := by omega
  have hu : us[k]? = some us[k] := List.getElem?_eq_getElem hku
  obtain ⟨b, o, e1, h1, h2⟩ := hk k _ hu
  obtain ⟨t1, t2⟩ := h.el k _ x hu hx W hgr
  have c0 := h2 0 _ rfl
  have c1 := h2 1 _ rfl
  rw [Nat.add_zero, Nat.mul_comm] at c0
  rw [Nat.mul_comm] at c1
  exact ⟨b, o, _, _, e1, h1, c0, c1, t1, t2⟩
end
theorem visitL_ok (N : Int) (hN : N ≤ 1000) (rb yb bm : Nat) (y : Nd) (wy : NW y) (op n lo hi : Int) (vx : vnB N ⟨op, n, lo, hi⟩ = true) (p : Option Addr) (c : Nat) (l : List (Ex × Ex)) (W : World) (hS : DuS Fz W (.slice p l.length c) l) (hF : Fz ≤ W.heap.size) (hx : arI op = l.length) (ev : ∀ q ∈ l, EV N q.1 ∧ EV N q.2) (hD : DvS rb yb bm y W) :
    Calls Tryz.prog 78 #[.agg #[.int .i64 op, .int .i64 n, .int .i64 lo, .int .i64 hi], .slice p l.length c, .pointer (some ⟨rb, 0, none⟩), .pointer (some ⟨yb, 0, none⟩)] W fun en w' => ∃ u u', en = .returned (.agg #[u, u']) ∧ TmP Fz w' u (sE ⟨op, n, lo, hi⟩ (l.map Prod.fst)) ∧ TmP Fz w' u' (dE y ⟨op, n, lo, hi⟩ l) ∧ Below W.heap.size W w' := by
  match l, hS, hx, ev with
  | [], hS, hx, ev => exact visit0_op N rb yb bm y n lo hi c W p op hx (nw_vn hN vx) wy hF hD
  | [q], hS, hx, ev =>
    obtain ⟨_, q1, cc, e, hk⟩ := hS
    simp only [Value.slice.injEq] at e
    obtain ⟨rfl, _, rfl⟩ := e
    obtain ⟨b, o, u, u', rfl, h1, h2, h3, h4, h5⟩ := hk 0 q rfl
    obtain ⟨e1, e2⟩ := ev q (by simp)
    rcases ar_one hx with rfl | rfl | rfl
    · exact visit1_4 N rb yb bm y n lo hi c W b o u u' q.1 q.2 h2 h3 h4 h5 e1 e2 hD
    · exact visit1_5 N rb yb bm y n lo hi c W b o u u' q.1 q.2 h2 h3 h4 h5 e1 e2 hD
    · exact visit1_6 N rb yb bm y n lo hi c W b o u u' q.1 q.2 h2 h3 h4 h5 e1 e2 hD
  | [q, s], hS, hx, ev =>
    obtain ⟨_, q1, cc, e, hk⟩ := hS
    simp only [Value.slice.injEq] at e
    obtain ⟨rfl, _, rfl⟩ := e
    obtain ⟨b, o, u, u', rfl, h1, h2, h3, h4, h5⟩ := hk 0 q rfl
    obtain ⟨b', o', z, z', e', g1, g2, g3, g4, g5⟩ := hk 1 s rfl
    cases e'
    obtain ⟨e1, e2⟩ := ev q (by simp)
    obtain ⟨e3, e4⟩ := ev s (by simp)
    rcases ar_two hx with rfl | rfl | rfl | rfl
    · exact visit2_7 N rb yb bm y n lo hi c W b o u u' q.1 q.2 h2 h3 h4 h5 e1 e2 z z' s.1 s.2 g2 g3 g4 g5 e3 e4 hD
    · exact visit2_8 N rb yb bm y n lo hi c W b o u u' q.1 q.2 h2 h3 h4 h5 e1 e2 z z' s.1 s.2 g2 g3 g4 g5 e3 e4 hD
    · exact visit2_9 N rb yb bm y n lo hi c W b o u u' q.1 q.2 h2 h3 h4 h5 e1 e2 z z' s.1 s.2 g2 g3 g4 g5 e3 e4 hD
    · exact visit2_10 N rb yb bm y n lo hi c W b o u u' q.1 q.2 h2 h3 h4 h5 e1 e2 z z' s.1 s.2 g2 g3 g4 g5 e3 e4 hD
  | a :: a' :: a'' :: r, hS, hx, ev =>
    exfalso
    unfold arI at hx
    simp only [List.length_cons] at hx
    split at hx
    · omega
    split at hx <;> omega
/-- What the closure of traverse finds. -/
structure TvD (rb yb bm vb nb : Nat) (y : Nd) (W : World) : Prop where
  vis : Boxed W vb 100 (.func (.func 78) #[] #[.pointer (some ⟨rb, 0, none⟩), .pointer (some ⟨yb, 0, none⟩)])
  nxt : Boxed W nb 116 (.func (.func 112) #[] #[.pointer (some ⟨vb, 0, none⟩), .pointer (some ⟨nb, 0, none⟩)])
  dv : DvS rb yb bm y W
theorem TvD.grow {rb yb bm vb nb : Nat} {y : Nd} {W W' : World} (h : TvD rb yb bm vb nb y W) (hB : Below W.heap.size W W') : TvD rb yb bm vb nb y W' :=
  ⟨(hB.block _ (Array.getElem?_eq_some_iff.1 h.vis).1).trans h.vis, (hB.block _ (Array.getElem?_eq_some_iff.1 h.nxt).1).trans h.nxt, h.dv.grow hB⟩
def dP (y : Nd) (a : Ex) : Ex × Ex := (sT a, dD y a)
theorem dD_kids (y : Nd) : ∀ e : Ex, dD y e = dE y (rtN e) ((kids e).map (dP y))
  | .e0 x => dD_0 y x
  | .e1 x a => dD_1 y x a
  | .e2 x a b => dD_2 y x a b
theorem map_fst (y : Nd) (l : List Ex) : (l.map (dP y)).map Prod.fst = l.map sT := by simp [dP, Function.comp_def]
theorem vn_rt {N : Int} : ∀ {e : Ex}, EV N e → vnB N (rtN e) = true
  | .e0 x, h => h.2
  | .e1 x a, h => h.1.2
  | .e2 x a b, h => h.1.2
/-- A dual as a value. -/
def TmD (Fz : Nat) (w : World) (z : Value) (p : Ex × Ex) : Prop := ∃ b b', z = .agg #[.pointer (some ⟨b, 0, none⟩), .pointer (some ⟨b', 0, none⟩)] ∧ TmP Fz w (.pointer (some ⟨b, 0, none⟩)) p.1 ∧ TmP Fz w (.pointer (some ⟨b', 0, none⟩)) p.2
theorem steady_tmd (p : Ex × Ex) : Steady (fun v w => TmD Fz w v p) := fun _ _ _ hb ⟨b, b', e, h1, h2⟩ => ⟨b, b', e, h1.grow hb, h2.grow hb⟩
theorem tmd_of {w : World} {u u' : Value} {p : Ex × Ex} (h1 : TmP Fz w u p.1) (h2 : TmP Fz w u' p.2) : TmD Fz w (.agg #[u, u']) p := by
  obtain ⟨b, S, rfl, _⟩ := h1.root
  obtain ⟨b', S', rfl, _⟩ := h2.root
  exact ⟨b, b', rfl, h1, h2⟩
theorem two_d (w : World) (u u' : Value) (t : TypeId) : ∀ j x, (enc2 (u, u'))[j]? = some x → (w.alloc (.cells #[u, u'] t)).cell? ((⟨w.heap.size, 0, none⟩ : Addr).add j) = some x := by
  intro j x hj
  have hk : j < 2 := by have := (List.getElem?_eq_some_iff.1 hj).1; simpa [enc2] using this
  match j, hk, hj with
  | 0, _, hj => cases hj; exact (new_2 w u u' t).1
  | 1, _, hj => cases hj; exact (new_2 w u u' t).2
set_option maxHeartbeats 16000000 in
theorem nextD_step (N : Int) (hN : N ≤ 1000) (rb yb bm vb nb : Nat) (y : Nd) (wy : NW y) (e : Ex) (hea : EV N e) (hsm : (pre e).length ≤ 100000)
    (IH : ∀ a ∈ kids e, ∀ (v : Value) (W : World), NxC W v (pre a) → TvD rb yb bm vb nb y W → Calls Tryz.prog 112 #[v, .pointer (some ⟨vb, 0, none⟩), .pointer (some ⟨nb, 0, none⟩)] W fun en w' => ∃ u u', en = .returned (.agg #[u, u']) ∧ TmP W.heap.size w' u (sT a) ∧ TmP W.heap.size w' u' (dD y a) ∧ Below W.heap.size W w') :
    ∀ (v : Value) (W : World), NxC W v (pre e) → TvD rb yb bm vb nb y W → Calls Tryz.prog 112 #[v, .pointer (some ⟨vb, 0, none⟩), .pointer (some ⟨nb, 0, none⟩)] W fun en w' => ∃ u u', en = .returned (.agg #[u, u']) ∧ TmP W.heap.size w' u (sT e) ∧ TmP W.heap.size w' u' (dD y e) ∧ Below W.heap.size W w' := by
  intro v W hv hT
  obtain ⟨i0, hi, hz0, hz1, hz2⟩ := info_parts info_du
  have hpos := pre_pos e
  have hko := ops_kids hea.ar
  have hka := (ar_kids hea.ar).1
  have hkv : ∀ q ∈ (kids e).map (dP y), EV N q.1 ∧ EV N q.2 := fun q hq => by
    obtain ⟨b, hb, rfl⟩ := List.mem_map.1 hq
    exact ⟨sT_ev (ev_kids hea b hb), dD_ev y (ev_kids hea b hb)⟩
  have hk2 := kids_le e
  have hpk := pre_kids e
  have hsk := sT_kids e
  have hdk := dD_kids y e
  have hvn := vn_rt hea
  rw [hsk, hdk]
  generalize hll : kids e = l at *
  generalize hxx : rtN e = x at *
  obtain ⟨op, n, lo, hi'⟩ := x
  generalize hm : pre e = m at *
  obtain ⟨q, cq, rfl⟩ : ∃ q cq, v = .slice q m.length cq := by obtain ⟨_, p, c, e1, _⟩ := hv; exact ⟨p, c, e1⟩
  obtain ⟨b0, o0, rfl, hb0, rd0⟩ := nd_rd (i := 0) hv.1 (x := ⟨op, n, lo, hi'⟩) (by rw [hpk]; rfl)
  have hq0 : ((m.length : Int) == 0) = false := by
    have : (m.length : Int) ≠ 0 := by omega
    simpa using this
  have hq1 : (0 : Int) < m.length := by omega
  have hq2 : m ≠ [] := fun h => by rw [h] at hpos; simp at hpos
  have hA : Below W.heap.size W (W.alloc (.cells #[.pointer none, .pointer none] 96)) := (Below.refl _ _).alloc (Nat.le_refl _) _
  have KO := Lib.hid (operands_ok _ m (W.alloc (.cells #[.pointer none, .pointer none] 96)) (grows_nxc _ _ _ _ hv hA) (by omega))
  rw [hko] at KO
  have HR := Lib.hid (show Blk (W.alloc (.cells #[.pointer none, .pointer none] 96)) W.heap.size (.cells #[.pointer none, .pointer none] 96) from World.alloc_heap_new W _)
  have HV := Lib.hid hv
  have HT := Lib.hid hT
  have HIH := Lib.hid IH
  have HKA := Lib.hid hka
  have HKV := Lib.hid hkv
  have HVN := Lib.hid hvn
  have HWY := Lib.hid wy
  have HHN := Lib.hid hN
  have RD := Lib.hid rd0
  have HA := Lib.hid hA
  have hAs : (W.alloc (.cells #[.pointer none, .pointer none] 96)).heap.size = W.heap.size + 1 := alloc_sz _ _
  generalize hres1 : sE ⟨op, n, lo, hi'⟩ (l.map sT) = res1
  generalize hres2 : dE y ⟨op, n, lo, hi'⟩ (l.map (dP y)) = res2
  have R1 := Lib.hid hres1
  have R2 := Lib.hid hres2
  have HAS := Lib.hid hAs
  clear hv hT IH hko hpk hsk hdk hll hxx hm hka hkv hea rd0 hpos hvn wy hN hres1 hres2 hA hAs
  go_enter Tryz.func112, Tryz.ntmps112
  go_wp2_with (fail)
  refine KO.out.mono ?_
  rintro en w1 ⟨r, rfl, ⟨us0, ho⟩, hB1⟩
  have hox := ho.lx (by simp [maxLen]; omega)
  obtain ⟨pr, cr', rfl⟩ := own_slice ho.row
  rw [List.length_map] at hox ⊢
  have HOX := Lib.hid hox
  have HB1 := Lib.hid (below_then HA.out hB1)
  have HR1 := Lib.hid (HR.out.grow hB1)
  have hw1 : W.heap.size < w1.heap.size := by have h1 := hB1.size; have h2 := HAS.out; omega
  have hW0 : OwnD W.heap.size w1.heap.size w1 (.slice none 0 0) [] [] := ⟨World.ownsRow_nil _ _ _ _, rfl, fun k u x h => by simp at h⟩
  have HW0 := Lib.hid hW0
  clear hox hB1 ho KO hW0 HR
  go_wp2_with (fail)
  go_loopw [5, 17] (fun v5 i wr => ∃ (k : Nat) (us : List (Value × Value)), i = .int .i64 k ∧ k ≤ l.length ∧ Hid (OwnD W.heap.size w1.heap.size wr v5 ((l.map (dP y)).take k) us) ∧ Hid (Below w1.heap.size w1 wr)) (fun v5 i _ => l.length - (intOf i).toNat)
  case atStart => exact ⟨0, [], rfl, Nat.zero_le _, HW0, Lib.hid (Below.refl _ _)⟩
  case round =>
    clear HW0
    obtain ⟨k, us, rfl, hk, HO, HB⟩ := hrel
    obtain ⟨p5, c5, rfl⟩ := own_slice HO.out.row
    have htl : ((l.map (dP y)).take k).length = k := by rw [List.length_take, List.length_map]; omega
    rw [htl] at HO ⊢
    have hbs := HB.out.size
    have hbs1 := HB1.out.size
    by_cases hlk : k < l.length
    · have i3 : (k : Int) < l.length := by omega
      obtain ⟨a, ha⟩ : ∃ a, l[k]? = some a := ⟨_, List.getElem?_eq_getElem hlk⟩
      obtain ⟨br, orr, u, rfl, hb2, rd2⟩ := HOX.out.rd grows_nxo (j := k) (x := pre a) (by rw [List.getElem?_map, ha]; rfl)
      have r0 : wr.cell? ⟨br, orr + k, none⟩ = some u := (rd2 ⟨wr, HB.out⟩).2.1
      have hu : NxC wr u (pre a) := (rd2 ⟨wr, HB.out⟩).2.2.1
      obtain ⟨pu, cu, rfl⟩ : ∃ q cq, u = .slice q (pre a).length cq := by obtain ⟨_, p, c, e1, _⟩ := hu; exact ⟨p, c, e1⟩
      have htv := HT.out.grow (below_then HB1.out HB.out)
      have k0 := htv.nxt.cell
      have KI := Lib.hid (HIH.out a (List.mem_of_getElem? ha) _ wr hu htv)
      have hsn : (l.map (dP y)).take (k + 1) = (l.map (dP y)).take k ++ [dP y a] := by rw [List.take_add_one, List.getElem?_map, ha]; rfl
      have HSN := Lib.hid hsn
      clear ha hb2 rd2 hu htv hsn
      go_wp2_with (fail)
      refine KI.out.mono ?_
      rintro en w9 ⟨z, s, rfl, hz, hs, hB9⟩
      obtain ⟨bz, Sz, rfl, _⟩ := hz.root
      obtain ⟨bs, Ss, rfl, _⟩ := hs.root
      have hB9a : Below wr.heap.size wr (w9.alloc (.cells #[.pointer (some ⟨bz, 0, none⟩), .pointer (some ⟨bs, 0, none⟩)] 96)) := hB9.alloc hB9.size _
      have HO9 := Lib.hid (HO.out.grow hB9a)
      have hzk : ∀ W', (w9.alloc (.cells #[.pointer (some ⟨bz, 0, none⟩), .pointer (some ⟨bs, 0, none⟩)] 96)).grownBy W' (Value.slice p5 k c5).ownBlock → TmP W.heap.size W' (.pointer (some ⟨bz, 0, none⟩)) (sT a) ∧ TmP W.heap.size W' (.pointer (some ⟨bs, 0, none⟩)) (dD y a) := fun W' h => ⟨((hz.al _).keep h (fun j hj => (HO.out.row.lt j hj).2)).low (by omega), ((hs.al _).keep h (fun j hj => (HO.out.row.lt j hj).2)).low (by omega)⟩
      have HZK := Lib.hid hzk
      have HB9 := Lib.hid (below_then HB.out hB9a)
      have hsz9 : w9.heap.size < (w9.alloc (.cells #[.pointer (some ⟨bz, 0, none⟩), .pointer (some ⟨bs, 0, none⟩)] 96)).heap.size := by rw [alloc_sz]; omega
      have hz9 := hB9.size
      clear hz hs hB9 hzk KI k0 r0 hB9a
      go_wp2_with (at_builtin; refine wpList_append_own_at _ rfl (.tmp 21) (.tmp 25) 98 rfl w1.heap.size 96 i0 (.agg #[.pointer none, .pointer none]) 2 16 Tryz.underlying98 hi hz0 hz1 hz2 rfl (by decide) (.slice p5 k c5) k _ rfl (by have := HO9.out.row; rw [htl] at this; exact this) ⟨w9.heap.size, 0, none⟩ 1 1 (enc2 (.pointer (some ⟨bz, 0, none⟩), .pointer (some ⟨bs, 0, none⟩))) rfl rfl (two_d _ _ _ _) (by simp [enc2, Value.oneCell']) (by unfold maxLen; omega) (by omega) (by rw [alloc_sz]; omega) ?_)
      intro v' w10 hown hgr _ hat
      obtain ⟨p6, c6, rfl⟩ := own_slice hown
      have hpush := HO9.out.push (x := dP y a) (u := (.pointer (some ⟨bz, 0, none⟩), .pointer (some ⟨bs, 0, none⟩))) (v' := .slice p6 (k + 1) c6) (W' := w10) HZK.out (by rw [htl]; exact hown) hgr (by rw [alloc_sz]; exact hat)
      rw [← HSN.out] at hpush
      have hb10 : Below w1.heap.size w1 w10 := Below.grown HB9.out hgr HB9.out.size (fun i hi => (HO9.out.row.lt i hi).1)
      have HP := Lib.hid hpush
      have HB10 := Lib.hid hb10
      clear hown hgr hat hpush hb10 HO9 HZK HB9 HO
      go_wp2_with (fail)
      go_roundw
      case rel => exact ⟨k + 1, _, by go_num, by omega, HP, HB10⟩
      case measure => simp [intOf]; omega
    · obtain rfl : k = l.length := by omega
      have i3 : ¬ (l.length : Int) < l.length := by omega
      have htk : (l.map (dP y)).take l.length = l.map (dP y) := List.take_of_length_le (by rw [List.length_map]; exact Nat.le_refl _)
      have hO2 := HO.out
      rw [htk] at hO2
      have hlx := hO2.dus (by simp [maxLen]; omega)
      have hlen : (l.map (dP y)).length = l.length := List.length_map ..
      have hbw := below_then HB1.out HB.out
      have htv := HT.out.grow hbw
      have v0 := fun g : Grown wr => (htv.grow g.h).vis.cell
      have a0 := fun g : Grown wr => (RD.out ⟨g.w, below_then hbw g.h⟩).1
      have a1 := fun g : Grown wr => (RD.out ⟨g.w, below_then hbw g.h⟩).2.1
      have a2 := fun g : Grown wr => (RD.out ⟨g.w, below_then hbw g.h⟩).2.2.1
      have a3 := fun g : Grown wr => (RD.out ⟨g.w, below_then hbw g.h⟩).2.2.2
      simp only [Nat.zero_mul, Nat.add_zero] at a0 a1 a2 a3
      have KS := Lib.hid (fun g : Grown wr => visitL_ok (Fz := W.heap.size) N HHN.out rb yb bm y HWY.out op n lo hi' HVN.out p5 c5 (l.map (dP y)) g.w (by rw [hlen]; exact hlx.grow g.h) (by have := g.h.size; omega) (by rw [hlen]; exact HKA.out) HKV.out (htv.dv.grow g.h))
      rw [hlen, map_fst, R1.out, R2.out] at KS
      have HR5 := Lib.hid (fun (w5 : World) (h : Below wr.heap.size wr w5) => HR1.out.grow (below_then HB.out h))
      have HBW := Lib.hid hbw
      clear hlx htk hO2 htv hbw hlen HO HB
      go_wp2_with (fail)
      refine region_pred_l (lk [(28, fun z_ _ => z_ = .func (.func 78) #[] #[.pointer (some ⟨rb, 0, none⟩), .pointer (some ⟨yb, 0, none⟩)]), (29, fun z_ _ => z_ = .slice (some ⟨b0, o0, none⟩) m.length cq), (30, fun z_ _ => z_ = .pointer (some ⟨b0, o0, none⟩)), (31, fun z_ _ => z_ = .agg #[.int .i64 op, .int .i64 n, .int .i64 lo, .int .i64 (hi')]), (32, fun z_ _ => z_ = .slice p5 l.length c5), (33, fun z_ w_ => TmD W.heap.size w_ z_ (res1, res2))]) 6 _ rfl (by kernel_rfl) (by kernel_rfl) (by kernel_rfl) (lk_steady _ ⟨steady_eq _, steady_eq _, steady_eq _, steady_eq _, steady_eq _, steady_tmd _, trivial⟩) ?_ ?_
      · refine ⟨?_, ?_, ?_, ?_, ?_, ?_, ?_, trivial⟩
        · intro _
          refine ob_plain [1] rfl rfl fun aa g h => ?_
          have yy0 := seen_out (v := .pointer (some ⟨vb, 0, none⟩)) rfl rfl h.1
          have ee0 := getD_of yy0
          exact tupon_value (v := .func (.func 78) #[] #[.pointer (some ⟨rb, 0, none⟩), .pointer (some ⟨yb, 0, none⟩)]) (by simp [go_sem, ee0, yy0, v0 g]) (Below.refl _ _) rfl
        · intro _
          refine ob_plain [0] rfl rfl fun aa g h => ?_
          have yy0 := seen_out (v := .slice (some ⟨b0, o0, none⟩) m.length cq) rfl rfl h.1
          have ee0 := getD_of yy0
          exact tupon_value (v := .slice (some ⟨b0, o0, none⟩) m.length cq) (by simp [go_sem, ee0, yy0]) (Below.refl _ _) rfl
        · intro _
          refine ob_plain [29] rfl rfl fun aa g h => ?_
          obtain ⟨_, yy0, rfl⟩ := seen_in rfl h.1
          have ee0 := getD_of yy0
          exact tupon_value (v := .pointer (some ⟨b0, o0, none⟩)) (by simp [go_sem, ee0, yy0, hq1, hq2]) (Below.refl _ _) rfl
        · intro _
          refine ob_plain [30] rfl rfl fun aa g h => ?_
          obtain ⟨_, yy0, rfl⟩ := seen_in rfl h.1
          have ee0 := getD_of yy0
          exact tupon_value (v := .agg #[.int .i64 op, .int .i64 n, .int .i64 lo, .int .i64 (hi')]) (by simp [go_sem, ee0, yy0, a0 g, a1 g, a2 g, a3 g]) (Below.refl _ _) rfl
        · intro _
          refine ob_plain [5] rfl rfl fun aa g h => ?_
          have yy0 := seen_out (v := .slice p5 l.length c5) rfl rfl h.1
          have ee0 := getD_of yy0
          exact tupon_value (v := .slice p5 l.length c5) (by simp [go_sem, ee0, yy0]) (Below.refl _ _) rfl
        · intro _
          refine ob_plain [28, 31, 32] rfl rfl fun aa g h => ?_
          obtain ⟨_, yy0, rfl⟩ := seen_in rfl h.1
          have ee0 := getD_of yy0
          obtain ⟨_, yy1, rfl⟩ := seen_in rfl h.2.1
          have ee1 := getD_of yy1
          obtain ⟨_, yy2, rfl⟩ := seen_in rfl h.2.2.1
          have ee2 := getD_of yy2
          refine tupon_enter (f := 78) (args := #[.agg #[.int .i64 op, .int .i64 n, .int .i64 lo, .int .i64 (hi')], .slice p5 l.length c5, .pointer (some ⟨rb, 0, none⟩), .pointer (some ⟨yb, 0, none⟩)]) (by simp [go_sem, ee0, yy0, ee1, yy1, ee2, yy2]) rfl ?_
          exact (KS.out g).mono fun e w' ⟨u_, s_, he, hz, hs, hB⟩ => ⟨_, he, hB, tmd_of (p := (res1, res2)) hz hs⟩
        · exact fun h => absurd rfl h
      rintro w5 hB _ rfl _ rfl _ rfl _ rfl _ rfl _ ⟨b33, c33, rfl, hz33, hs33⟩
      simp only [Act.put, List.setIfInBounds_toArray, List.set_cons_succ, List.set_cons_zero, List.filterMap_nil]
      have hr5 := HR5.out w5 hB
      have q0 := heapN_cellj hr5 (k := 0) rfl
      have y0 : w5.frozen? ⟨W.heap.size, 0, none⟩ = false := by simp [World.frozen?, show w5.heap[W.heap.size]? = _ from hr5]
      have q1 := heapN_cellj hr5 (k := 1) rfl
      have y1 : w5.frozen? ⟨W.heap.size, 1, none⟩ = false := by simp [World.frozen?, show w5.heap[W.heap.size]? = _ from hr5]
      refine ⟨_, by simp [go_sem, q0, y0, q1, y1]; rfl, ?_⟩
      clear q0 y0 q1 y1
      obtain ⟨w6, ew6, HIw6, HOw6⟩ := set2 (h := hr5) (.pointer (some ⟨b33, 0, none⟩)) (.pointer (some ⟨c33, 0, none⟩))
      rw [ew6]
      clear ew6
      have hb6 : Below W.heap.size W w6 := HOw6.bel (below_then HBW.out hB) (Nat.le_refl _) (by have := HBW.out.size; have := hB.size; omega)
      have HK1 := Lib.hid (tm_oth hr5 HOw6 hz33)
      have HK2 := Lib.hid (tm_oth hr5 HOw6 hs33)
      have HB6 := Lib.hid hb6
      have x0 := heapN_cellj HIw6 (k := 0) (u := .pointer (some ⟨b33, 0, none⟩)) rfl
      have x1 := heapN_cellj HIw6 (k := 1) (u := .pointer (some ⟨c33, 0, none⟩)) rfl
      clear hb6 HOw6 HIw6 hr5 hz33 hs33 hB v0 a0 a1 a2 a3 KS
      go_wp2_with (fail)
      exact bodyPost_ret (v := .agg #[.pointer (some ⟨b33, 0, none⟩), .pointer (some ⟨c33, 0, none⟩)]) (by simp [results, Tryz.results112, go_sem, x0, x1]) rfl ⟨_, _, rfl, HK1.out, HK2.out, HB6.out⟩
theorem nextD_ok (N : Int) (hN : N ≤ 1000) (rb yb bm vb nb : Nat) (y : Nd) (wy : NW y) : ∀ (e : Ex), EV N e → (pre e).length ≤ 100000 → ∀ (v : Value) (W : World), NxC W v (pre e) → TvD rb yb bm vb nb y W → Calls Tryz.prog 112 #[v, .pointer (some ⟨vb, 0, none⟩), .pointer (some ⟨nb, 0, none⟩)] W fun en w' => ∃ u u', en = .returned (.agg #[u, u']) ∧ TmP W.heap.size w' u (sT e) ∧ TmP W.heap.size w' u' (dD y e) ∧ Below W.heap.size W w' := by
  intro e
  induction e with
  | e0 x => exact fun he hl => nextD_step N hN rb yb bm vb nb y wy _ he hl (fun a ha => by simp [kids] at ha)
  | e1 x a ih => exact fun he hl => nextD_step N hN rb yb bm vb nb y wy _ he hl (fun a ha => by have h2 := len_kids _ a ha; simp [kids] at ha; subst ha; exact ih he.2 (by omega))
  | e2 x a b ih1 ih2 => exact fun he hl => nextD_step N hN rb yb bm vb nb y wy _ he hl (fun a ha => by
      have h2 := len_kids _ a ha
      simp [kids] at ha
      rcases ha with rfl | rfl
      · exact ih1 he.2.1 (by omega)
      · exact ih2 he.2.2 (by omega))
set_option maxHeartbeats 8000000 in
theorem travD_ok (N : Int) (hN : N ≤ 1000) (rb yb bm : Nat) (y : Nd) (wy : NW y) (v : Value) (e : Ex) (w : World) (hv : NxC w v (pre e)) (he : EV N e) (hsm : (pre e).length ≤ 100000) (hD : DvS rb yb bm y w) : Calls Tryz.prog 77 #[v, .func (.func 78) #[] #[.pointer (some ⟨rb, 0, none⟩), .pointer (some ⟨yb, 0, none⟩)]] w fun en w' => ∃ u u', en = .returned (.agg #[u, u']) ∧ TmP w.heap.size w' u (sT e) ∧ TmP w.heap.size w' u' (dD y e) ∧ Below w.heap.size w w' := by
  obtain ⟨p, c, rfl⟩ : ∃ q cq, v = .slice q (pre e).length cq := by obtain ⟨_, p, c, e1, _⟩ := hv; exact ⟨p, c, e1⟩
  have hE : Below w.heap.size w (((w.alloc (.cells #[.func (.func 78) #[] #[.pointer (some ⟨rb, 0, none⟩), .pointer (some ⟨yb, 0, none⟩)]] 100)).alloc (.cells #[.pointer none, .pointer none] 96)).alloc (.cells #[.func (.func 112) #[] #[.pointer (some ⟨w.heap.size, 0, none⟩), .pointer (some ⟨w.heap.size + 1 + 1, 0, none⟩)]] 116)) := allocs_below [.cells #[.func (.func 78) #[] #[.pointer (some ⟨rb, 0, none⟩), .pointer (some ⟨yb, 0, none⟩)]] 100, .cells #[.pointer none, .pointer none] 96, .cells #[.func (.func 112) #[] #[.pointer (some ⟨w.heap.size, 0, none⟩), .pointer (some ⟨w.heap.size + 1 + 1, 0, none⟩)]] 116] w
  have HA := Lib.hid (show Blk (((w.alloc (.cells #[.func (.func 78) #[] #[.pointer (some ⟨rb, 0, none⟩), .pointer (some ⟨yb, 0, none⟩)]] 100)).alloc (.cells #[.pointer none, .pointer none] 96)).alloc (.cells #[.func (.func 112) #[] #[.pointer (some ⟨w.heap.size, 0, none⟩), .pointer (some ⟨w.heap.size + 1 + 1, 0, none⟩)]] 116)) (w.heap.size) (.cells #[.func (.func 78) #[] #[.pointer (some ⟨rb, 0, none⟩), .pointer (some ⟨yb, 0, none⟩)]] 100) from allocs_at [.cells #[.func (.func 78) #[] #[.pointer (some ⟨rb, 0, none⟩), .pointer (some ⟨yb, 0, none⟩)]] 100, .cells #[.pointer none, .pointer none] 96, .cells #[.func (.func 112) #[] #[.pointer (some ⟨w.heap.size, 0, none⟩), .pointer (some ⟨w.heap.size + 1 + 1, 0, none⟩)]] 116] w 0 _ rfl)
  have HR := Lib.hid (show Blk (((w.alloc (.cells #[.func (.func 78) #[] #[.pointer (some ⟨rb, 0, none⟩), .pointer (some ⟨yb, 0, none⟩)]] 100)).alloc (.cells #[.pointer none, .pointer none] 96)).alloc (.cells #[.func (.func 112) #[] #[.pointer (some ⟨w.heap.size, 0, none⟩), .pointer (some ⟨w.heap.size + 1 + 1, 0, none⟩)]] 116)) (w.heap.size + 1) (.cells #[.pointer none, .pointer none] 96) from allocs_at [.cells #[.func (.func 78) #[] #[.pointer (some ⟨rb, 0, none⟩), .pointer (some ⟨yb, 0, none⟩)]] 100, .cells #[.pointer none, .pointer none] 96, .cells #[.func (.func 112) #[] #[.pointer (some ⟨w.heap.size, 0, none⟩), .pointer (some ⟨w.heap.size + 1 + 1, 0, none⟩)]] 116] w 1 _ rfl)
  have HB := Lib.hid (show Blk (((w.alloc (.cells #[.func (.func 78) #[] #[.pointer (some ⟨rb, 0, none⟩), .pointer (some ⟨yb, 0, none⟩)]] 100)).alloc (.cells #[.pointer none, .pointer none] 96)).alloc (.cells #[.func (.func 112) #[] #[.pointer (some ⟨w.heap.size, 0, none⟩), .pointer (some ⟨w.heap.size + 1 + 1, 0, none⟩)]] 116)) (w.heap.size + 1 + 1) (.cells #[.func (.func 112) #[] #[.pointer (some ⟨w.heap.size, 0, none⟩), .pointer (some ⟨w.heap.size + 1 + 1, 0, none⟩)]] 116) from allocs_at [.cells #[.func (.func 78) #[] #[.pointer (some ⟨rb, 0, none⟩), .pointer (some ⟨yb, 0, none⟩)]] 100, .cells #[.pointer none, .pointer none] 96, .cells #[.func (.func 112) #[] #[.pointer (some ⟨w.heap.size, 0, none⟩), .pointer (some ⟨w.heap.size + 1 + 1, 0, none⟩)]] 116] w 2 _ rfl)
  have KN := Lib.hid (nextD_ok N hN rb yb bm w.heap.size (w.heap.size + 1 + 1) y wy e he hsm _ _ (grows_nxc _ _ _ _ hv hE) ⟨HA.out, HB.out, hD.grow hE⟩)
  have HE := Lib.hid hE
  have hse := hE.size
  have hse2 : w.heap.size + 1 < (((w.alloc (.cells #[.func (.func 78) #[] #[.pointer (some ⟨rb, 0, none⟩), .pointer (some ⟨yb, 0, none⟩)]] 100)).alloc (.cells #[.pointer none, .pointer none] 96)).alloc (.cells #[.func (.func 112) #[] #[.pointer (some ⟨w.heap.size, 0, none⟩), .pointer (some ⟨w.heap.size + 1 + 1, 0, none⟩)]] 116)).heap.size := by rw [alloc_sz, alloc_sz, alloc_sz]; omega
  clear hv hE HA HB he hD wy hN
  go_enter Tryz.func77, Tryz.ntmps77
  go_wp2_with (fail)
  refine KN.out.mono ?_
  rintro en w3 ⟨z, s, rfl, hz, hs, hB⟩
  obtain ⟨bz, Sz, rfl, _⟩ := hz.root
  obtain ⟨bs, Ss, rfl, _⟩ := hs.root
  have hr5 := HR.out.grow hB
  have q0 := heapN_cellj hr5 (k := 0) (u := .pointer none) rfl
  have q1 := heapN_cellj hr5 (k := 1) (u := .pointer none) rfl
  have y0 : w3.frozen? ⟨w.heap.size + 1, 0, none⟩ = false := by simp [World.frozen?, show w3.heap[w.heap.size + 1]? = _ from hr5]
  have y1 : w3.frozen? ⟨w.heap.size + 1, 1, none⟩ = false := by simp [World.frozen?, show w3.heap[w.heap.size + 1]? = _ from hr5]
  obtain ⟨w8, e8, hI8, hO8⟩ := set2 hr5 (.pointer (some ⟨bz, 0, none⟩)) (.pointer (some ⟨bs, 0, none⟩))
  have x0 := heapN_cellj hI8 (k := 0) (u := .pointer (some ⟨bz, 0, none⟩)) rfl
  have x1 := heapN_cellj hI8 (k := 1) (u := .pointer (some ⟨bs, 0, none⟩)) rfl
  have hb8 : Below w.heap.size w w8 := hO8.bel (below_then HE.out hB) (by omega) (by have := hB.size; omega)
  have HK1 := Lib.hid ((tm_oth hr5 hO8 hz).low hse)
  have HK2 := Lib.hid ((tm_oth hr5 hO8 hs).low hse)
  have HB8 := Lib.hid hb8
  rw [← e8] at x0 x1
  have HE8 := Lib.hid e8
  clear hz hs hB KN hr5 e8 hI8 hO8 hb8
  go_wp2_with (fail)
  refine bodyPost_ret (v := .agg #[.pointer (some ⟨bz, 0, none⟩), .pointer (some ⟨bs, 0, none⟩)]) (by simp [results, Tryz.results77, go_sem, x0, x1]) rfl ?_
  rw [HE8.out]
  exact ⟨_, _, rfl, HK1.out, HK2.out, HB8.out⟩
set_option maxHeartbeats 8000000 in
theorem deriv10_ok (N : Int) (hN : N ≤ 1000) (y : Nd) (wy : NW y) (v : Value) (e : Ex) (w : World) (hv : NxC w v (pre e)) (he : EV N e) (hsm : (pre e).length ≤ 200) : Calls Tryz.prog 50 #[v, .agg #[.int .i64 y.op, .int .i64 y.n, .int .i64 y.lo, .int .i64 y.hi]] w fun en w' => ∃ v', en = .returned v' ∧ w'.ownsRow w.heap.size 63 4 v' (pre (dD y e)).length (cr encN (pre (dD y e))) ∧ Below w.heap.size w w' := by
  obtain ⟨p, c, rfl⟩ : ∃ q cq, v = .slice q (pre e).length cq := by obtain ⟨_, p, c, e1, _⟩ := hv; exact ⟨p, c, e1⟩
  have hA : Below w.heap.size w (w.alloc (.cells #[.int .i64 y.op, .int .i64 y.n, .int .i64 y.lo, .int .i64 y.hi] 63)) := (Below.refl _ _).alloc (Nat.le_refl _) _
  have HY := Lib.hid (NdC.new w y)
  have hl2 : (pre (dD y e)).length ≤ 100000 := by
    have h1 := dD_len y e
    have h2 : (pre e).length * ((pre e).length + 4) ≤ 200 * 204 := Nat.mul_le_mul hsm (by omega)
    omega
  have HL := Lib.hid hl2
  have HV := Lib.hid hv
  have HEV := Lib.hid he
  have HWY := Lib.hid wy
  have HN := Lib.hid hN
  have HA := Lib.hid hA
  have HSM := Lib.hid hsm
  clear hv he wy hN hA hl2 hsm
  go_enter Tryz.func50, Tryz.ntmps50
  go_wp2_with (fail)
  refine (rules_ok _).mono ?_
  rintro en w1 ⟨bm, rfl, hbm, hfp, hB1⟩
  have hb1 := below_then HA.out hB1
  have hM : Below w1.heap.size w1 (w1.alloc (.cells #[.map (some bm)] 93)) := (Below.refl _ _).alloc (Nat.le_refl _) _
  have hm := World.alloc_heap_new w1 (.cells #[.map (some bm)] 93)
  have hD : DvS w1.heap.size w.heap.size bm y (w1.alloc (.cells #[.map (some bm)] 93)) := ⟨hm, hfp.grow hM, (HY.out.grow hB1).grow hM⟩
  have KT := Lib.hid (travD_ok N HN.out w1.heap.size w.heap.size bm y HWY.out _ e (w1.alloc (.cells #[.map (some bm)] 93)) (grows_nxc _ _ _ _ HV.out (below_then hb1 hM)) HEV.out (by have := HSM.out; omega) hD)
  have HB1 := Lib.hid (below_then hb1 hM)
  clear hbm hfp hB1 hb1 hM hm hD
  go_wp2_with (fail)
  refine KT.out.mono ?_
  rintro en w3 ⟨z, s, rfl, hz, hs, hB3⟩
  obtain ⟨bz, Sz, rfl, _⟩ := hz.root
  obtain ⟨bs, Ss, rfl, _⟩ := hs.root
  have KN := Lib.hid (nodes_ok (dD y e) (.pointer (some ⟨bs, 0, none⟩)) (w3.alloc (.cells #[.pointer (some ⟨bz, 0, none⟩), .pointer (some ⟨bs, 0, none⟩)] 96)) (hs.al _) HL.out)
  have HB3 := Lib.hid (below_then (below_then HB1.out hB3) ((Below.refl _ w3).alloc (Nat.le_refl _) (.cells #[.pointer (some ⟨bz, 0, none⟩), .pointer (some ⟨bs, 0, none⟩)] 96)))
  clear hz hs hB3 KT
  go_wp2_with (fail)
  refine KN.out.mono ?_
  rintro en w4 ⟨v4, rfl, hr, hB4⟩
  have HR := Lib.hid (own_base hr HB3.out.size)
  have HB4 := Lib.hid (below_then HB3.out hB4)
  clear hr hB4 KN
  go_wp2_with (fail)
  go_ret
  exact ⟨_, rfl, HR.out, HB4.out⟩
theorem diff_ok (N : Int) (hN : N ≤ 1000) (i : Int) (hi : W64 i) (v : Value) (e : Ex) (w : World) (hv : NxC w v (pre e)) (he : EV N e) (hsm : (pre e).length ≤ 200) : Calls Tryz.prog 17 #[v, .int .i64 i] w fun en w' => ∃ v', en = .returned v' ∧ w'.ownsRow w.heap.size 63 4 v' (pre (dD ⟨2, i, 0, 0⟩ e)).length (cr encN (pre (dD ⟨2, i, 0, 0⟩ e))) ∧ Below w.heap.size w w' := by
  obtain ⟨p, c, rfl⟩ : ∃ q cq, v = .slice q (pre e).length cq := by obtain ⟨_, p, c, e1, _⟩ := hv; exact ⟨p, c, e1⟩
  have KD := Lib.hid (deriv10_ok N hN ⟨2, i, 0, 0⟩ ⟨by unfold W64; dsimp only; omega, hi, by unfold W64; dsimp only; omega, by unfold W64; dsimp only; omega⟩ _ e w hv he hsm)
  dsimp only at KD
  clear hN hv he hsm hi
  go_enter Tryz.func17, Tryz.ntmps17
  go_wp2_with (fail)
  refine KD.out.mono ?_
  rintro en w4 ⟨v4, rfl, hr, hB4⟩
  have HR := Lib.hid hr
  have HB4 := Lib.hid hB4
  clear hr hB4 KD
  go_wp2_with (fail)
  go_ret
  exact ⟨_, rfl, HR.out, HB4.out⟩
theorem tder_ok (N : Int) (hN : N ≤ 1000) (v : Value) (e : Ex) (w : World) (hv : NxC w v (pre e)) (he : EV N e) (hsm : (pre e).length ≤ 200) : Calls Tryz.prog 19 #[v] w fun en w' => ∃ v', en = .returned v' ∧ w'.ownsRow w.heap.size 63 4 v' (pre (dD ⟨3, 0, 0, 0⟩ e)).length (cr encN (pre (dD ⟨3, 0, 0, 0⟩ e))) ∧ Below w.heap.size w w' := by
  obtain ⟨p, c, rfl⟩ : ∃ q cq, v = .slice q (pre e).length cq := by obtain ⟨_, p, c, e1, _⟩ := hv; exact ⟨p, c, e1⟩
  have KD := Lib.hid (deriv10_ok N hN ⟨3, 0, 0, 0⟩ ⟨by unfold W64; dsimp only; omega, by unfold W64; dsimp only; omega, by unfold W64; dsimp only; omega, by unfold W64; dsimp only; omega⟩ _ e w hv he hsm)
  dsimp only at KD
  clear hN hv he hsm 
  go_enter Tryz.func19, Tryz.ntmps19
  go_wp2_with (fail)
  refine KD.out.mono ?_
  rintro en w4 ⟨v4, rfl, hr, hB4⟩
  have HR := Lib.hid hr
  have HB4 := Lib.hid hB4
  clear hr hB4 KD
  go_wp2_with (fail)
  go_ret
  exact ⟨_, rfl, HR.out, HB4.out⟩
end Go.Proofs.YtbppfohcicepcaaGreat
namespace Go.Proofs.YtbppfohcicepcaaGreat
open Go.ChangeShapes Go.WideShapes Go.ChangeAt Go.RowKit
set_option linter.unusedVariables false
set_option linter.unusedSimpArgs false
set_option maxRecDepth 100000
attribute [local irreducible] Calls
theorem own_node {W : World} {B X : Nat} (x : Nd) (h : W.heap[X]? = some (.cells #[.int .i64 x.op, .int .i64 x.n, .int .i64 x.lo, .int .i64 x.hi] 63 (0, 0))) (hB : B ≤ X) : W.ownsRow B 63 4 (.slice (some ⟨X, 0, none⟩) 1 1) 1 (cr encN [x]) :=
  ⟨by simp [cr, encN], .inr ⟨X, 1, _, rfl, hB, h, Nat.le_refl _, by unfold maxLen; omega, by simp, by simp [cr, encN]⟩⟩
theorem const7_ok (a b : Int) (w : World) : Calls Tryz.prog 64 #[.agg #[.int .i64 a, .int .i64 b]] w fun e w' => ∃ v, e = .returned v ∧ w'.ownsRow w.heap.size 63 4 v 1 (cr encN [⟨1, 0, a, b⟩]) ∧ Below w.heap.size w w' := by
  have hE : Below w.heap.size w ((w.alloc (.cells #[.int .i64 a, .int .i64 b] 26)).alloc (.cells #[.int .i64 1, .int .i64 0, .int .i64 a, .int .i64 b] 63)) := allocs_below [.cells #[.int .i64 a, .int .i64 b] 26, .cells #[.int .i64 1, .int .i64 0, .int .i64 a, .int .i64 b] 63] w
  have hx := allocs_at [.cells #[.int .i64 a, .int .i64 b] 26, .cells #[.int .i64 1, .int .i64 0, .int .i64 a, .int .i64 b] 63] w 1 _ rfl
  have HE := Lib.hid hE
  have HX := Lib.hid (own_node (B := w.heap.size) ⟨1, 0, a, b⟩ hx (by omega))
  clear hE hx
  go_enter Tryz.func64, Tryz.ntmps64
  go_wp2_with (fail)
  go_ret
  exact ⟨_, rfl, HX.out, HE.out⟩
theorem unary7_ok (op : Int) (v : Value) (l : List Nd) (w : World) (hv : NxC w v l) (hl : l.length ≤ 1000) : Calls Tryz.prog 35 #[.int .i64 op, v] w fun e w' => ∃ v, e = .returned v ∧ w'.ownsRow w.heap.size 63 4 v (1 + l.length) (cr encN (⟨op, 0, 0, 0⟩ :: l)) ∧ Below w.heap.size w w' := by
  obtain ⟨hn, p, c, rfl, hlc, hpc⟩ := hv
  have hE : Below w.heap.size w (w.alloc (.cells #[.int .i64 op, .int .i64 0, .int .i64 0, .int .i64 0] 63)) := allocs_below [.cells #[.int .i64 op, .int .i64 0, .int .i64 0, .int .i64 0] 63] w
  have hx := allocs_at [.cells #[.int .i64 op, .int .i64 0, .int .i64 0, .int .i64 0] 63] w 0 _ rfl
  have HE := Lib.hid hE
  have HX := Lib.hid (own_node (B := w.heap.size) ⟨op, 0, 0, 0⟩ hx (by omega))
  have HN := Lib.hid (hn.grow hE)
  have HPC := Lib.hid hpc
  clear hE hx hn hpc
  go_enter Tryz.func35, Tryz.ntmps35
  go_wp2_with (at_builtin; refine wpList_append_nd rfl (.tmp 9) (.tmp 10) rfl w.heap.size (.slice (some ⟨w.heap.size, 0, none⟩) 1 1) 1 _ rfl HX.out p c l rfl HN.out HPC.out (by unfold maxLen; omega) (by omega) HE.out.size ?_)
  intro v' w8 hown' hgrow
  have HO := Lib.hid hown'
  have HB := Lib.hid (Below.grown HE.out hgrow HE.out.size (fun i hi => (HX.out.lt i hi).1))
  clear hown' hgrow
  go_wp2_with (fail)
  go_ret
  exact ⟨_, rfl, HO.out, HB.out⟩
theorem binary7_ok (op : Int) (v u : Value) (l m : List Nd) (w : World) (hv : NxC w v l) (hu : NxC w u m) (hl : l.length ≤ 1000) (hm : m.length ≤ 1000) : Calls Tryz.prog 30 #[.int .i64 op, v, u] w fun e w' => ∃ v, e = .returned v ∧ w'.ownsRow w.heap.size 63 4 v (1 + l.length + m.length) (cr encN (⟨op, 0, 0, 0⟩ :: l ++ m)) ∧ Below w.heap.size w w' := by
  obtain ⟨hn, p, c, rfl, hlc, hpc⟩ := hv
  obtain ⟨hn2, p2, c2, rfl, hlc2, hpc2⟩ := hu
  have hE : Below w.heap.size w (w.alloc (.cells #[.int .i64 op, .int .i64 0, .int .i64 0, .int .i64 0] 63)) := allocs_below [.cells #[.int .i64 op, .int .i64 0, .int .i64 0, .int .i64 0] 63] w
  have hx := allocs_at [.cells #[.int .i64 op, .int .i64 0, .int .i64 0, .int .i64 0] 63] w 0 _ rfl
  have HE := Lib.hid hE
  have HX := Lib.hid (own_node (B := w.heap.size) ⟨op, 0, 0, 0⟩ hx (by omega))
  have HN := Lib.hid (hn.grow hE)
  have HN2 := Lib.hid hn2
  have HPC := Lib.hid hpc
  have HPC2 := Lib.hid hpc2
  clear hE hx hn hpc hn2 hpc2
  go_enter Tryz.func30, Tryz.ntmps30
  go_wp2_with (at_builtin; refine wpList_append_nd rfl (.tmp 11) (.tmp 12) rfl w.heap.size (.slice (some ⟨w.heap.size, 0, none⟩) 1 1) 1 _ rfl HX.out p c l rfl HN.out HPC.out (by unfold maxLen; omega) (by omega) HE.out.size ?_)
  intro v' w8 hown' hgrow
  have HO := Lib.hid hown'
  have HB := Lib.hid (Below.grown HE.out hgrow HE.out.size (fun i hi => (HX.out.lt i hi).1))
  obtain ⟨pv, cv, rfl⟩ := own_slice hown'
  have HN3 := Lib.hid (HN2.out.grow HB.out)
  clear hown' hgrow
  go_wp2_with (at_builtin; refine wpList_append_nd rfl (.tmp 14) (.tmp 15) rfl w.heap.size (.slice pv (1 + l.length) cv) (1 + l.length) _ rfl HO.out p2 c2 m rfl HN3.out HPC2.out (by unfold maxLen; omega) (by omega) HB.out.size ?_)
  intro v' w9 hown' hgrow
  have HO9 := Lib.hid hown'
  have HB9 := Lib.hid (Below.grown HB.out hgrow HB.out.size (fun i hi => (HO.out.lt i hi).1))
  clear hown' hgrow
  go_wp2_with (fail)
  go_ret
  refine ⟨_, rfl, ?_, HB9.out⟩
  have h := HO9.out
  simpa [cr, List.append_assoc] using h
/-- How many operands an operation has. -/
theorem arity7_ok (op : Int) (w : World) (h1 : 1 ≤ op) (h2 : op ≤ 10) : Calls Tryz.prog 65 #[.int .i64 op] w fun e w' => e = .returned (.int .i64 (if op ≤ 3 then 0 else if op ≤ 6 then 1 else 2)) ∧ w = w' := by
  have i1 : ¬ op < 1 := by omega
  have i2 : ¬ op > 10 := by omega
  have i2' : ¬ 10 < op := by omega
  by_cases h3 : op ≤ 3
  · rw [if_pos h3]
    go_enter Tryz.func65, Tryz.ntmps65
    go_wp2_with (fail)
    go_ret
    exact ⟨rfl, rfl⟩
  rw [if_neg h3]
  by_cases h6 : op ≤ 6
  · rw [if_pos h6]
    go_enter Tryz.func65, Tryz.ntmps65
    go_wp2_with (fail)
    go_ret
    exact ⟨rfl, rfl⟩
  · rw [if_neg h6]
    go_enter Tryz.func65, Tryz.ntmps65
    go_wp2_with (fail)
    go_ret
    exact ⟨rfl, rfl⟩
end Go.Proofs.YtbppfohcicepcaaGreat
