/-
  Jg
-/
import Derived.Test.YtbppfohcicepcaaGreatKbt
namespace Go.Proofs.YtbppfohcicepcaaGreat
open Go.ChangeShapes Go.WideShapes Go.ChangeAt Go.RowKit
set_option linter.unusedVariables false
set_option linter.unusedSimpArgs false
set_option maxRecDepth 100000
attribute [local irreducible] Calls
open Go.Maps
variable {Fz : Nat}
theorem info_pt : (Tryz.prog.info? 69).map (fun i => (i.zero, i.size, i.bytes)) = some (some (.pointer none), 1, 8) := by kernel_rfl
/-- A row of terms of the call's own: the terms outlive what the row does. -/
structure OwnT (Fz B : Nat) (W : World) (v : Value) (l : List Ex) (us : List Value) : Prop where
  row : W.ownsRow B 69 1 v l.length us
  el : ∀ (k : Nat) (u : Value) (x : Ex), us[k]? = some u → l[k]? = some x → ∀ W', W.grownBy W' v.ownBlock → TmP Fz W' u x
section
variable {B : Nat} {W W' : World} {v v' u : Value} {l : List Ex} {us : List Value} {x : Ex}
theorem OwnT.grow (h : OwnT Fz B W v l us) (hB : Below W.heap.size W W') : OwnT Fz B W' v l us :=
  ⟨own_keptN h.row hB, fun k u x h1 h2 W2 h3 => h.el k u x h1 h2 W2 ⟨h3.os.trans hB.os, h3.tape.trans hB.tape, h3.output.trans hB.output, Nat.le_trans hB.size h3.size, fun k hk hn => (h3.block k (Nat.lt_of_lt_of_le hk hB.size) hn).trans (hB.block k hk)⟩⟩
theorem OwnT.push (h : OwnT Fz B W v l us) (hu : ∀ W', W.grownBy W' v.ownBlock → TmP Fz W' u x) (hr : W'.ownsRow B 69 1 v' (l.length + 1) (us ++ [u])) (hg : W.grownBy W' v.ownBlock) (hat : v'.ownBlock = v.ownBlock ∨ v'.ownBlock = some W.heap.size) : OwnT Fz B W' v' (l ++ [x]) (us ++ [u]) := by
  refine ⟨by rw [List.length_append]; exact hr, fun k u' x' h1 h2 W2 h3 => ?_⟩
  have h4 : W.grownBy W2 v.ownBlock := by
    refine ⟨h3.os.trans hg.os, h3.tape.trans hg.tape, h3.output.trans hg.output, Nat.le_trans hg.size h3.size, fun k hk hn => ?_⟩
    refine (h3.block k (Nat.lt_of_lt_of_le hk hg.size) ?_).trans (hg.block k hk hn)
    rcases hat with e | e
    · rw [e]; exact hn
    · rw [e]; intro e2; have := Option.some.inj e2; omega
  have hl : us.length = l.length := by have := h.row.1; omega
  by_cases hk : k < l.length
  · rw [List.getElem?_append_left (by omega)] at h1
    rw [List.getElem?_append_left hk] at h2
    exact h.el k u' x' h1 h2 W2 h4
  · have hk2 : k = l.length := by
      have := (List.getElem?_eq_some_iff.1 h2).1
      simp at this
      omega
    subst hk2
    rw [List.getElem?_append_right (by omega), hl, Nat.sub_self] at h1
    rw [List.getElem?_append_right (by omega), Nat.sub_self] at h2
    cases h1
    cases h2
    exact hu W2 h4
theorem OwnT.lx (h : OwnT Fz B W v l us) (hl : l.length ≤ maxLen) : TmS Fz W v l := by
  have hlen := h.row.1
  refine ⟨hl, ?_⟩
  have hgr : W.grownBy W v.ownBlock := ⟨rfl, rfl, rfl, Nat.le_refl _, fun _ _ _ => rfl⟩
  rcases id h.row.2 with ⟨rfl, h0⟩ | ⟨g, cap, cur, rfl, hg, hh, hcap, _, _, _⟩
  · exact ⟨none, 0, by rw [h0], fun k x hx => by
      have := (List.getElem?_eq_some_iff.1 hx).1
      omega⟩
  · refine ⟨some ⟨g, 0, none⟩, cap, rfl, fun k x hx => ?_⟩
    have hk := (List.getElem?_eq_some_iff.1 hx).1
    have hku : k < us.length := by omega
    have hc := h.row.cellAt k (by omega)
    rw [List.getElem?_eq_getElem hku] at hc
    exact ⟨g, 0, us[k], rfl, (Array.getElem?_eq_some_iff.1 hh).1, by rw [Nat.zero_add]; exact hc, h.el k _ x (List.getElem?_eq_getElem hku) hx W hgr⟩
theorem OwnT.blk (h : OwnT Fz B W v l us) {p : Option Addr} {n c : Nat} (e : v = .slice p n c) : ∀ a, p = some a → B ≤ a.block ∧ a.block < W.heap.size := fun a ha => by
  rcases id h.row.2 with ⟨e1, h0⟩ | ⟨g, cap, cur, e1, hg, hh, _⟩
  · rw [e1] at e; cases e; cases ha
  · rw [e1] at e
    simp only [Value.slice.injEq] at e
    obtain ⟨rfl, _⟩ := e
    cases ha
    exact ⟨hg, (Array.getElem?_eq_some_iff.1 hh).1⟩
end
/-- The simplification of a root with operands. -/
def sE (x : Nd) : List Ex → Ex
  | [] => .e0 x
  | [a] => s1 x a
  | a :: b :: _ => s2 x a b
theorem sT_kids : ∀ e : Ex, sT e = sE (rtN e) ((kids e).map sT)
  | .e0 _ => rfl
  | .e1 _ _ => rfl
  | .e2 _ _ _ => rfl
theorem ops_kids : ∀ {e : Ex}, Ar e → operands (pre e) = (kids e).map pre
  | .e0 x, h => ops0 h
  | .e1 x a, h => ops1 h
  | .e2 x a b, h => ops2 h
theorem ar_kids : ∀ {e : Ex}, Ar e → arI (rtN e).op = (kids e).length ∧ ∀ a ∈ kids e, Ar a
  | .e0 x, h => ⟨h, fun a ha => by simp [kids] at ha⟩
  | .e1 x a, h => ⟨h.1, fun b hb => by simp [kids] at hb; subst hb; exact h.2⟩
  | .e2 x a b, h => ⟨h.1, fun c hc => by simp [kids] at hc; rcases hc with rfl | rfl; exact h.2.1; exact h.2.2⟩
theorem ev_kids {N : Int} : ∀ {e : Ex}, EV N e → ∀ a ∈ kids e, EV N a
  | .e0 x, h => fun a ha => by simp [kids] at ha
  | .e1 x a, h => fun b hb => by simp [kids] at hb; subst hb; exact h.2
  | .e2 x a b, h => fun c hc => by simp [kids] at hc; rcases hc with rfl | rfl; exact h.2.1; exact h.2.2
theorem len_kids (e : Ex) : ∀ a ∈ kids e, (pre a).length ≤ (pre e).length := by
  cases e with
  | e0 x => intro a ha; simp [kids] at ha
  | e1 x a => intro b hb; simp [kids] at hb; subst hb; simp [pre]
  | e2 x a b => intro c hc; simp [kids] at hc; rcases hc with rfl | rfl <;> simp [pre] <;> omega
theorem simpL_ok (N : Int) (op n lo hi : Int) (p : Option Addr) (c : Nat) (l : List Ex) (w : World) (hS : TmS Fz w (.slice p l.length c) l) (hp : ∀ a, p = some a → Fz ≤ a.block) (hF : Fz ≤ w.heap.size) (hx : arI op = l.length) (ev : ∀ a ∈ l, EV N a) :
    Calls Tryz.prog 45 #[.agg #[.int .i64 op, .int .i64 n, .int .i64 lo, .int .i64 hi], .slice p l.length c] w fun e w' => ∃ z, e = .returned z ∧ TmP Fz w' z (sE ⟨op, n, lo, hi⟩ l) ∧ Below w.heap.size w w' := by
  match l, hS, hx, ev with
  | [], hS, hx, ev => exact simp0_ok op n lo hi c w _ p rfl hF
  | [a], hS, hx, ev =>
    obtain ⟨_, q, cc, e, hk⟩ := hS
    simp only [Value.slice.injEq] at e
    obtain ⟨rfl, _, rfl⟩ := e
    obtain ⟨b, o, u, rfl, h1, h2, h3⟩ := hk 0 a rfl
    have hop : op = 4 ∨ op = 5 ∨ op = 6 := ar_one hx
    exact simp1_ok op n lo hi c w N b o u a h2 h3 (ev a (by simp)) hop (hp _ rfl)
  | [a, a'], hS, hx, ev =>
    obtain ⟨_, q, cc, e, hk⟩ := hS
    simp only [Value.slice.injEq] at e
    obtain ⟨rfl, _, rfl⟩ := e
    obtain ⟨b, o, u, rfl, h1, h2, h3⟩ := hk 0 a rfl
    obtain ⟨b', o', u', e', h1', h2', h3'⟩ := hk 1 a' rfl
    cases e'
    have hop : op = 7 ∨ op = 8 ∨ op = 9 ∨ op = 10 := ar_two hx
    exact simp2_ok op n lo hi c w N b o u u' a a' h2 h2' h3 h3' (ev a (by simp)) (ev a' (by simp)) hop (hp _ rfl)
  | a :: a' :: a'' :: r, hS, hx, ev =>
    exfalso
    unfold arI at hx
    simp only [List.length_cons] at hx
    split at hx
    · omega
    split at hx <;> omega
/-- What the closure of traverse finds: the visit, itself. -/
structure TvS (vb nb : Nat) (W : World) : Prop where
  vis : Boxed W vb 71 (.func (.func 45) #[] #[])
  nxt : Boxed W nb 85 (.func (.func 70) #[] #[.pointer (some ⟨vb, 0, none⟩), .pointer (some ⟨nb, 0, none⟩)])
theorem TvS.grow {vb nb : Nat} {W W' : World} (h : TvS vb nb W) (hB : Below W.heap.size W W') : TvS vb nb W' :=
  ⟨(hB.block _ (Array.getElem?_eq_some_iff.1 h.vis).1).trans h.vis, (hB.block _ (Array.getElem?_eq_some_iff.1 h.nxt).1).trans h.nxt⟩
set_option maxHeartbeats 16000000 in
theorem next_step (N : Int) (vb nb : Nat) (e : Ex) (hea : EV N e) (hsm : (pre e).length ≤ 100000)
    (IH : ∀ a ∈ kids e, ∀ (v : Value) (W : World), NxC W v (pre a) → TvS vb nb W → Calls Tryz.prog 70 #[v, .pointer (some ⟨vb, 0, none⟩), .pointer (some ⟨nb, 0, none⟩)] W fun en w' => ∃ z, en = .returned z ∧ TmP W.heap.size w' z (sT a) ∧ Below W.heap.size W w') :
    ∀ (v : Value) (W : World), NxC W v (pre e) → TvS vb nb W → Calls Tryz.prog 70 #[v, .pointer (some ⟨vb, 0, none⟩), .pointer (some ⟨nb, 0, none⟩)] W fun en w' => ∃ z, en = .returned z ∧ TmP W.heap.size w' z (sT e) ∧ Below W.heap.size W w' := by
  intro v W hv hT
  obtain ⟨i0, hi, hz0, hz1, hz2⟩ := info_parts info_pt
  have hpos := pre_pos e
  have hko := ops_kids hea.ar
  have hka := (ar_kids hea.ar).1
  have hkv : ∀ a ∈ (kids e).map sT, EV N a := fun a ha => by
    obtain ⟨b, hb, rfl⟩ := List.mem_map.1 ha
    exact sT_ev (ev_kids hea b hb)
  have hk2 := kids_le e
  have hpk := pre_kids e
  have hsk := sT_kids e
  rw [hsk]
  generalize hll : kids e = l at *
  generalize hxx : rtN e = x at *
  obtain ⟨op, n, lo, hi'⟩ := x
  generalize hm : pre e = m at *
  obtain ⟨q, cq, rfl⟩ : ∃ q cq, v = .slice q m.length cq := by obtain ⟨_, p, c, e1, _⟩ := hv; exact ⟨p, c, e1⟩
  obtain ⟨b0, o0, rfl, hb0, rd0⟩ := nd_rd (i := 0) hv.1 (x := ⟨op, n, lo, hi'⟩) (by rw [hpk]; rfl)
  have hq0 : ((m.length : Int) == 0) = false := by
    have : (m.length : Int) ≠ 0 := by omega
    simpa using this
  have hq1 : (0 : Int) < m.length := by omega
  have hq2 : m ≠ [] := fun h => by rw [h] at hpos; simp at hpos
  have KO := Lib.hid (operands_ok _ m W hv (by omega))
  rw [hko] at KO
  have HV := Lib.hid hv
  have HT := Lib.hid hT
  have HIH := Lib.hid IH
  have HKA := Lib.hid hka
  have HKV := Lib.hid hkv
  have RD := Lib.hid rd0
  clear hv hT IH hko hpk hsk hll hxx hm hka hkv hea rd0 hpos
  go_enter Tryz.func70, Tryz.ntmps70
  go_wp2_with (fail)
  refine KO.out.mono ?_
  rintro en w1 ⟨r, rfl, ⟨us0, ho⟩, hB1⟩
  have hox := ho.lx (by simp [maxLen]; omega)
  obtain ⟨pr, cr, rfl⟩ := own_slice ho.row
  rw [List.length_map] at hox ⊢
  have HOX := Lib.hid hox
  have HB1 := Lib.hid hB1
  have hW0 : OwnT W.heap.size w1.heap.size w1 (.slice none 0 0) [] [] := ⟨World.ownsRow_nil _ _ _ _, fun k u x h => by simp at h⟩
  have HW0 := Lib.hid hW0
  clear hox hB1 ho KO hW0
  go_wp2_with (fail)
  go_loopw [5, 17] (fun v5 i wr => ∃ (k : Nat) (us : List Value), i = .int .i64 k ∧ k ≤ l.length ∧ Hid (OwnT W.heap.size w1.heap.size wr v5 ((l.map sT).take k) us) ∧ Hid (Below w1.heap.size w1 wr)) (fun v5 i _ => l.length - (intOf i).toNat)
  case atStart => exact ⟨0, [], rfl, Nat.zero_le _, HW0, Lib.hid (Below.refl _ _)⟩
  case round =>
    clear HW0
    obtain ⟨k, us, rfl, hk, HO, HB⟩ := hrel
    obtain ⟨p5, c5, rfl⟩ := own_slice HO.out.row
    have htl : ((l.map sT).take k).length = k := by rw [List.length_take, List.length_map]; omega
    rw [htl] at HO ⊢
    have hbs := HB.out.size
    have hbs1 := HB1.out.size
    by_cases hlk : k < l.length
    · have i3 : (k : Int) < l.length := by omega
      obtain ⟨a, ha⟩ : ∃ a, l[k]? = some a := ⟨_, List.getElem?_eq_getElem hlk⟩
      obtain ⟨br, orr, u, rfl, hb2, rd2⟩ := HOX.out.rd grows_nxo (j := k) (x := pre a) (by rw [List.getElem?_map, ha]; rfl)
      have r0 : wr.cell? ⟨br, orr + k, none⟩ = some u := (rd2 ⟨wr, HB.out⟩).2.1
      have hu : NxC wr u (pre a) := (rd2 ⟨wr, HB.out⟩).2.2.1
      obtain ⟨pu, cu, rfl⟩ : ∃ q cq, u = .slice q (pre a).length cq := by obtain ⟨_, p, c, e1, _⟩ := hu; exact ⟨p, c, e1⟩
      have htv := HT.out.grow (below_then HB1.out HB.out)
      have k0 := htv.nxt.cell
      have KI := Lib.hid (HIH.out a (List.mem_of_getElem? ha) _ wr hu htv)
      have hsn : (l.map sT).take (k + 1) = (l.map sT).take k ++ [sT a] := by rw [List.take_add_one, List.getElem?_map, ha]; rfl
      have HSN := Lib.hid hsn
      clear ha hb2 rd2 hu htv hsn
      go_wp2_with (fail)
      refine KI.out.mono ?_
      rintro en w9 ⟨z, rfl, hz, hB9⟩
      obtain ⟨bz, Sz, rfl, _⟩ := hz.root
      have hB9a : Below wr.heap.size wr (w9.alloc (.cells #[.pointer (some ⟨bz, 0, none⟩)] 69)) := hB9.alloc hB9.size _
      have HO9 := Lib.hid (HO.out.grow hB9a)
      have hzk : ∀ W', (w9.alloc (.cells #[.pointer (some ⟨bz, 0, none⟩)] 69)).grownBy W' (Value.slice p5 k c5).ownBlock → TmP W.heap.size W' (.pointer (some ⟨bz, 0, none⟩)) (sT a) := fun W' h => ((hz.al _).keep h (fun j hj => (HO.out.row.lt j hj).2)).low (by omega)
      have HZK := Lib.hid hzk
      have HB9 := Lib.hid (below_then HB.out hB9a)
      have hsz9 : w9.heap.size < (w9.alloc (.cells #[.pointer (some ⟨bz, 0, none⟩)] 69)).heap.size := by rw [alloc_sz]; omega
      have hz9 := hB9.size
      clear hz hB9 hzk KI k0 r0 hB9a
      go_wp2_with (at_builtin; refine wpList_append_own_at _ rfl (.tmp 21) (.tmp 25) 86 rfl w1.heap.size 69 i0 (.pointer none) 1 8 Tryz.underlying86 hi hz0 hz1 hz2 rfl (by decide) (.slice p5 k c5) k _ rfl (by have := HO9.out.row; rw [htl] at this; exact this) ⟨w9.heap.size, 0, none⟩ 1 1 [.pointer (some ⟨bz, 0, none⟩)] rfl rfl (one_newN _ _ _) (by simp [Value.oneCell']) (by unfold maxLen; omega) (by omega) (by rw [alloc_sz]; omega) ?_)
      intro v' w10 hown hgr _ hat
      obtain ⟨p6, c6, rfl⟩ := own_slice hown
      have hpush := HO9.out.push (x := sT a) (v' := .slice p6 (k + 1) c6) (W' := w10) HZK.out (by rw [htl]; exact hown) hgr (by rw [alloc_sz]; exact hat)
      rw [← HSN.out] at hpush
      have hb10 : Below w1.heap.size w1 w10 := Below.grown HB9.out hgr HB9.out.size (fun i hi => (HO9.out.row.lt i hi).1)
      have HP := Lib.hid hpush
      have HB10 := Lib.hid hb10
      clear hown hgr hat hpush hb10 HO9 HZK HB9 HO
      go_wp2_with (fail)
      go_roundw
      case rel => exact ⟨k + 1, _, by go_num, by omega, HP, HB10⟩
      case measure => simp [intOf]; omega
    · obtain rfl : k = l.length := by omega
      have i3 : ¬ (l.length : Int) < l.length := by omega
      have hlx := HO.out.lx (by simp [maxLen]; omega)
      have htk : (l.map sT).take l.length = l.map sT := List.take_of_length_le (by rw [List.length_map]; exact Nat.le_refl _)
      have hblk := HO.out.blk rfl
      rw [htk] at hlx
      have hlen : (l.map sT).length = l.length := List.length_map ..
      have htv := HT.out.grow (below_then HB1.out HB.out)
      have hbw := below_then HB1.out HB.out
      have v0 := fun g : Grown wr => (htv.grow g.h).vis.cell
      have a0 := fun g : Grown wr => (RD.out ⟨g.w, below_then hbw g.h⟩).1
      have a1 := fun g : Grown wr => (RD.out ⟨g.w, below_then hbw g.h⟩).2.1
      have a2 := fun g : Grown wr => (RD.out ⟨g.w, below_then hbw g.h⟩).2.2.1
      have a3 := fun g : Grown wr => (RD.out ⟨g.w, below_then hbw g.h⟩).2.2.2
      simp only [Nat.zero_mul, Nat.add_zero] at a0 a1 a2 a3
      have KS := Lib.hid (fun g : Grown wr => simpL_ok (Fz := W.heap.size) N op n lo hi' p5 c5 (l.map sT) g.w (by rw [hlen]; rw [← hlen] at hlx; have := Lx.grow grows_tm hlx g.h; rwa [hlen] at this) (fun a ha => by have := hblk a ha; omega) (by have := g.h.size; omega) (by rw [hlen]; exact HKA.out) HKV.out)
      rw [hlen] at KS
      have HBW := Lib.hid hbw
      clear hlx htk hblk htv hbw hlen HO HB
      go_wp2_with (fail)
      refine region_pred (lk [(28, fun z_ _ => z_ = .func (.func 45) #[] #[]), (29, fun z_ _ => z_ = .slice (some ⟨b0, o0, none⟩) m.length cq), (30, fun z_ _ => z_ = .pointer (some ⟨b0, o0, none⟩)), (31, fun z_ _ => z_ = .agg #[.int .i64 op, .int .i64 n, .int .i64 lo, .int .i64 (hi')]), (32, fun z_ _ => z_ = .slice p5 l.length c5), (33, fun z_ w_ => TmP W.heap.size w_ z_ (sE ⟨op, n, lo, hi'⟩ (l.map sT))), (4, fun z_ w_ => TmP W.heap.size w_ z_ (sE ⟨op, n, lo, hi'⟩ (l.map sT)))]) (by kernel_rfl) (by kernel_rfl) (lk_steady _ ⟨steady_eq _, steady_eq _, steady_eq _, steady_eq _, steady_eq _, steady_tmp _, steady_tmp _, trivial⟩) ?_ ?_
      · refine ⟨?_, ?_, ?_, ?_, ?_, ?_, ?_, trivial⟩
        · refine ob_plain [1] rfl rfl fun aa g h => ?_
          have yy0 := seen_out (v := .pointer (some ⟨vb, 0, none⟩)) rfl rfl h.1
          have ee0 := getD_of yy0
          exact tupon_value (v := .func (.func 45) #[] #[]) (by simp [go_sem, ee0, yy0, v0 g]) (Below.refl _ _) rfl
        · refine ob_plain [0] rfl rfl fun aa g h => ?_
          have yy0 := seen_out (v := .slice (some ⟨b0, o0, none⟩) m.length cq) rfl rfl h.1
          have ee0 := getD_of yy0
          exact tupon_value (v := .slice (some ⟨b0, o0, none⟩) m.length cq) (by simp [go_sem, ee0, yy0]) (Below.refl _ _) rfl
        · refine ob_plain [29] rfl rfl fun aa g h => ?_
          obtain ⟨_, yy0, rfl⟩ := seen_in rfl h.1
          have ee0 := getD_of yy0
          exact tupon_value (v := .pointer (some ⟨b0, o0, none⟩)) (by simp [go_sem, ee0, yy0, hq1, hq2]) (Below.refl _ _) rfl
        · refine ob_plain [30] rfl rfl fun aa g h => ?_
          obtain ⟨_, yy0, rfl⟩ := seen_in rfl h.1
          have ee0 := getD_of yy0
          exact tupon_value (v := .agg #[.int .i64 op, .int .i64 n, .int .i64 lo, .int .i64 (hi')]) (by simp [go_sem, ee0, yy0, a0 g, a1 g, a2 g, a3 g]) (Below.refl _ _) rfl
        · refine ob_plain [5] rfl rfl fun aa g h => ?_
          have yy0 := seen_out (v := .slice p5 l.length c5) rfl rfl h.1
          have ee0 := getD_of yy0
          exact tupon_value (v := .slice p5 l.length c5) (by simp [go_sem, ee0, yy0]) (Below.refl _ _) rfl
        · refine ob_plain [28, 31, 32] rfl rfl fun aa g h => ?_
          obtain ⟨_, yy0, rfl⟩ := seen_in rfl h.1
          have ee0 := getD_of yy0
          obtain ⟨_, yy1, rfl⟩ := seen_in rfl h.2.1
          have ee1 := getD_of yy1
          obtain ⟨_, yy2, rfl⟩ := seen_in rfl h.2.2.1
          have ee2 := getD_of yy2
          refine tupon_enter (f := 45) (args := #[.agg #[.int .i64 op, .int .i64 n, .int .i64 lo, .int .i64 (hi')], .slice p5 l.length c5]) (by simp [go_sem, ee0, yy0, ee1, yy1, ee2, yy2]) rfl ?_
          exact (KS.out g).mono fun e w' ⟨z, he, hz, hB⟩ => ⟨_, he, hB, hz⟩
        · refine ob_plain [33] rfl rfl fun aa g h => ?_
          obtain ⟨u33, yy0, hu33⟩ := seen_in rfl h.1
          have ee0 := getD_of yy0
          exact tupon_value (v := u33) (by simp [go_sem, ee0, yy0]) (Below.refl _ _) hu33
      rintro w5 hB _ rfl _ rfl _ rfl _ rfl _ rfl u33 hu33 u4 hu4
      simp only [Act.put, List.setIfInBounds_toArray, List.set_cons_succ, List.set_cons_zero, List.filterMap_nil, finP]
      have HU := Lib.hid hu4
      have HB5 := Lib.hid (below_then HBW.out hB)
      clear hu4 hu33 hB v0 a0 a1 a2 a3 KS
      go_wp2_with (fail)
      go_ret
      exact ⟨_, rfl, HU.out, HB5.out⟩
theorem next_ok (N : Int) (vb nb : Nat) : ∀ (e : Ex), EV N e → (pre e).length ≤ 100000 → ∀ (v : Value) (W : World), NxC W v (pre e) → TvS vb nb W → Calls Tryz.prog 70 #[v, .pointer (some ⟨vb, 0, none⟩), .pointer (some ⟨nb, 0, none⟩)] W fun en w' => ∃ z, en = .returned z ∧ TmP W.heap.size w' z (sT e) ∧ Below W.heap.size W w' := by
  intro e
  induction e with
  | e0 x => exact fun he hl => next_step N vb nb _ he hl (fun a ha => by simp [kids] at ha)
  | e1 x a ih => exact fun he hl => next_step N vb nb _ he hl (fun a ha => by have h2 := len_kids _ a ha; simp [kids] at ha; subst ha; exact ih he.2 (by omega))
  | e2 x a b ih1 ih2 => exact fun he hl => next_step N vb nb _ he hl (fun a ha => by
      have h2 := len_kids _ a ha
      simp [kids] at ha
      rcases ha with rfl | rfl
      · exact ih1 he.2.1 (by omega)
      · exact ih2 he.2.2 (by omega))
set_option maxHeartbeats 8000000 in
theorem trav_ok (N : Int) (v : Value) (e : Ex) (w : World) (hv : NxC w v (pre e)) (he : EV N e) (hsm : (pre e).length ≤ 100000) : Calls Tryz.prog 44 #[v, .func (.func 45) #[] #[]] w fun en w' => ∃ z, en = .returned z ∧ TmP w.heap.size w' z (sT e) ∧ Below w.heap.size w w' := by
  obtain ⟨p, c, rfl⟩ : ∃ q cq, v = .slice q (pre e).length cq := by obtain ⟨_, p, c, e1, _⟩ := hv; exact ⟨p, c, e1⟩
  have hE : Below w.heap.size w ((w.alloc (.cells #[.func (.func 45) #[] #[]] 71)).alloc (.cells #[.func (.func 70) #[] #[.pointer (some ⟨w.heap.size, 0, none⟩), .pointer (some ⟨w.heap.size + 1, 0, none⟩)]] 85)) := allocs_below [.cells #[.func (.func 45) #[] #[]] 71, .cells #[.func (.func 70) #[] #[.pointer (some ⟨w.heap.size, 0, none⟩), .pointer (some ⟨w.heap.size + 1, 0, none⟩)]] 85] w
  have HA := Lib.hid (show Blk ((w.alloc (.cells #[.func (.func 45) #[] #[]] 71)).alloc (.cells #[.func (.func 70) #[] #[.pointer (some ⟨w.heap.size, 0, none⟩), .pointer (some ⟨w.heap.size + 1, 0, none⟩)]] 85)) (w.heap.size) (.cells #[.func (.func 45) #[] #[]] 71) from allocs_at [.cells #[.func (.func 45) #[] #[]] 71, .cells #[.func (.func 70) #[] #[.pointer (some ⟨w.heap.size, 0, none⟩), .pointer (some ⟨w.heap.size + 1, 0, none⟩)]] 85] w 0 _ rfl)
  have HB := Lib.hid (show Blk ((w.alloc (.cells #[.func (.func 45) #[] #[]] 71)).alloc (.cells #[.func (.func 70) #[] #[.pointer (some ⟨w.heap.size, 0, none⟩), .pointer (some ⟨w.heap.size + 1, 0, none⟩)]] 85)) (w.heap.size + 1) (.cells #[.func (.func 70) #[] #[.pointer (some ⟨w.heap.size, 0, none⟩), .pointer (some ⟨w.heap.size + 1, 0, none⟩)]] 85) from allocs_at [.cells #[.func (.func 45) #[] #[]] 71, .cells #[.func (.func 70) #[] #[.pointer (some ⟨w.heap.size, 0, none⟩), .pointer (some ⟨w.heap.size + 1, 0, none⟩)]] 85] w 1 _ rfl)
  have KN := Lib.hid (next_ok N w.heap.size (w.heap.size + 1) e he hsm _ _ (grows_nxc _ _ _ _ hv hE) ⟨HA.out, HB.out⟩)
  have HE := Lib.hid hE
  have hse := hE.size
  clear hv hE HA HB he
  go_enter Tryz.func44, Tryz.ntmps44
  go_wp2_with (fail)
  refine KN.out.mono ?_
  rintro en w3 ⟨z, rfl, hz, hB⟩
  have HZ := Lib.hid (hz.low hse)
  have HB3 := Lib.hid (below_then HE.out hB)
  clear hz hB KN
  go_wp2_with (fail)
  go_ret
  exact ⟨_, rfl, HZ.out, HB3.out⟩
/-- Simplify. -/
theorem simplify_ok (N : Int) (v : Value) (e : Ex) (w : World) (hv : NxC w v (pre e)) (he : EV N e) (hsm : (pre e).length ≤ 100000) : Calls Tryz.prog 15 #[v] w fun en w' => ∃ v', en = .returned v' ∧ w'.ownsRow w.heap.size 63 4 v' (pre (sT e)).length (cr encN (pre (sT e))) ∧ Below w.heap.size w w' := by
  obtain ⟨p, c, rfl⟩ : ∃ q cq, v = .slice q (pre e).length cq := by obtain ⟨_, p, c, e1, _⟩ := hv; exact ⟨p, c, e1⟩
  have KT := Lib.hid (trav_ok N _ e w hv he hsm)
  have hl := sT_len e
  have hl2 : (pre (sT e)).length ≤ 100000 := by omega
  clear hv he hl
  go_enter Tryz.func15, Tryz.ntmps15
  go_wp2_with (fail)
  refine KT.out.mono ?_
  rintro en w3 ⟨z, rfl, hz, hB⟩
  have KN := Lib.hid (nodes_ok (sT e) z w3 hz hl2)
  obtain ⟨bz, Sz, rfl, _⟩ := hz.root
  have HB3 := Lib.hid hB
  clear hz hB KT
  go_wp2_with (fail)
  refine KN.out.mono ?_
  rintro en w4 ⟨v4, rfl, hr, hB4⟩
  have HR := Lib.hid (own_base hr HB3.out.size)
  have HB4 := Lib.hid (below_then HB3.out hB4)
  clear hr hB4 KN
  go_wp2_with (fail)
  go_ret
  exact ⟨_, rfl, HR.out, HB4.out⟩
end Go.Proofs.YtbppfohcicepcaaGreat
