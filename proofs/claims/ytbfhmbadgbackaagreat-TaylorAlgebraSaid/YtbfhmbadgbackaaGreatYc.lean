/-
  Package taylor: Neg, Sub, Const, MulInterval, Var, Valid.
-/
import Derived.Test.YtbfhmbadgbackaaGreatYb
namespace Go.Proofs.YtbfhmbadgbackaaGreat
open Go.ChangeShapes Go.WideShapes Go.ChangeAt Go.RowKit
set_option linter.unusedVariables false
set_option linter.unusedSimpArgs false
set_option maxRecDepth 100000
attribute [local irreducible] Calls
def OwnQ (B : Nat) (W : World) (q : Option Addr) (l : List Tm) : Prop := 0 < l.length → ∃ g cur, q = some ⟨g, 0, none⟩ ∧ B ≤ g ∧ W.heap[g]? = some (.cells cur 63 (0, 0))
set_option maxHeartbeats 4000000 in
theorem clone_tm (p : Option Addr) (c : Nat) (l : List Tm) (w : World) (hv : Tx w (.slice p l.length c) l) (h6 : ∀ t ∈ l, t.2.length = 6) (hc : p = none → c = 0) (hsm : l.length ≤ 1000) :
    Calls Tryz.prog 61 #[.slice p l.length c] w fun e W' => ∃ q cap, e = .returned (.slice q l.length cap) ∧ CapOk (.slice q l.length cap) ∧ OwnQ w.heap.size W' q l ∧ Tx W' (.slice q l.length cap) l ∧ Below w.heap.size w W' := by
  cases p with
  | none =>
    obtain rfl : c = 0 := hc rfl
    have hl : l = [] := by
      cases l with
      | nil => rfl
      | cons t l =>
        exfalso
        obtain ⟨_, q, c', e, h⟩ := hv
        obtain ⟨b, o, hq, _⟩ := h 0 t rfl
        simp only [Value.slice.injEq] at e
        rw [hq] at e
        exact absurd e.1 (by simp)
    subst hl
    clear hv h6 hc hsm
    have hcmp : (binOp BinOp.eql 22 (.slice none 0 0) (.slice none 0 0)).run Tryz.prog w = .ok (.bool true) w := by first | rfl | simp [binOp, go_sem]
    go_enter Tryz.func61, Tryz.ntmps61
    go_wp2_with (fail)
    go_ret
    exact ⟨none, 0, rfl, cap_nil, fun h => by simp at h, Tx.nil _ _ _, by go_grown⟩
  | some a =>
    obtain ⟨i0, hi, hz0, hz1, hz2⟩ := info_parts info_t
    have hcmp : (binOp BinOp.eql 22 (.slice (some a) l.length c) (.slice none 0 0)).run Tryz.prog w = .ok (.bool false) w := by first | rfl | simp [binOp, go_sem]
    have hown := own_empty w
    have hba : Below w.heap.size w (w.alloc (.cells #[] 63)) := (Below.refl _ _).alloc (Nat.le_refl _) _
    have htx := hv.grow hba
    have HB := Lib.hid hba
    have H6 := Lib.hid h6
    clear hv hc hba
    go_enter Tryz.func61, Tryz.ntmps61
    go_wp2_with (at_builtin; refine wpList_append_tx rfl (.tmp 5) (.tmp 6) rfl w.heap.size (.slice (some ⟨w.heap.size, 0, none⟩) 0 0) 0 [] rfl hown (some a) c l rfl htx H6.out (by simp) (by unfold maxLen; omega) (by omega) (by simp) ?_)
    intro v' w1 hown' hgrow
    try simp only [Nat.zero_add, List.nil_append] at hown'
    have htx1 := Tx.own hown' (by unfold maxLen; omega) H6.out
    have hBn : Below w.heap.size w w1 := Below.grown HB.out hgrow (by simp) (fun k hk => (hown.lt k hk).1)
    have hcap := capok_own hown'
    obtain ⟨q, cap, rfl, hq⟩ : ∃ q cap, v' = .slice q l.length cap ∧ OwnQ w.heap.size w1 q l := by
      rcases hown'.2 with ⟨e, h0⟩ | ⟨g, cap, cur, e, hg, hh, _⟩
      · exact ⟨none, 0, by rw [e, h0], fun h => by omega⟩
      · exact ⟨_, cap, e, fun _ => ⟨g, cur, rfl, hg, hh⟩⟩
    have HT := Lib.hid htx1
    have HQ := Lib.hid hq
    have HCP := Lib.hid hcap
    clear hown' hgrow htx htx1 hown hcmp hq hcap
    go_wp2_with (fail)
    go_ret
    exact ⟨q, cap, rfl, HCP.out, HQ.out, HT.out, hBn⟩
def mixN (l : List Tm) (k : Nat) : List Tm := negT (l.take k) ++ l.drop k
theorem mixN_len (l : List Tm) (k : Nat) : (mixN l k).length = l.length := by
  unfold mixN negT
  rw [List.length_append, List.length_map, List.length_take, List.length_drop]
  omega
theorem mixN_get {l : List Tm} {k : Nat} {t : Tm} (h : l[k]? = some t) : (mixN l k)[k]? = some t := by
  have hl := (List.getElem?_eq_some_iff.1 h).1
  unfold mixN negT
  rw [List.getElem?_append_right (by rw [List.length_map, List.length_take]; omega), List.length_map, List.length_take, List.getElem?_drop, show k + (k - min k l.length) = k by omega]
  exact h
theorem mixN_set {l : List Tm} {k : Nat} {t : Tm} (h : l[k]? = some t) : (mixN l k).set k (-t.1, t.2) = mixN l (k + 1) := by
  have hl := (List.getElem?_eq_some_iff.1 h).1
  have e : l[k]'hl = t := (List.getElem?_eq_some_iff.1 h).2
  unfold mixN negT
  rw [List.set_append, if_neg (by rw [List.length_map, List.length_take]; omega), List.length_map, List.length_take, show k - min k l.length = 0 by omega, List.drop_eq_getElem_cons hl, List.set_cons_zero, List.take_add_one, h]
  simp
theorem mixN_all {P : Tm → Prop} {l : List Tm} {k : Nat} (h : ∀ t ∈ l, P t) (hn : ∀ t, P t → P (-t.1, t.2)) : ∀ t ∈ mixN l k, P t := fun t ht => by
  unfold mixN negT at ht
  rcases List.mem_append.1 ht with q | q
  · obtain ⟨s, hs, rfl⟩ := List.mem_map.1 q
    exact hn s (h s (List.mem_of_mem_take hs))
  · exact h t (List.mem_of_mem_drop q)
theorem Tx.setc {W : World} {g n cap k : Nat} {l : List Tm} {t : Tm} (h : Tx W (.slice (some ⟨g, 0, none⟩) n cap) l) (hl : ∀ t ∈ l, TV t) (ht : l[k]? = some t) (x : Int) : Tx (W.setCell ⟨g, k * 7, none⟩ (.int .i64 x)) (.slice (some ⟨g, 0, none⟩) n cap) (l.set k (x, t.2)) := by
  obtain ⟨h1, p, c', e, h2⟩ := h
  refine ⟨by rw [List.length_set]; exact h1, p, c', by rw [List.length_set]; exact e, fun i s hs => ?_⟩
  simp only [Value.slice.injEq] at e
  obtain ⟨rfl, rfl, rfl⟩ := e
  have hil : i < l.length := by
    have := (List.getElem?_eq_some_iff.1 hs).1
    rwa [List.length_set] at this
  obtain ⟨t0, ht0⟩ : ∃ t0, l[i]? = some t0 := ⟨_, List.getElem?_eq_getElem hil⟩
  obtain ⟨b, o, hp, h3, h4⟩ := h2 i t0 ht0
  simp only [Option.some.injEq, Addr.mk.injEq, and_true] at hp
  obtain ⟨rfl, rfl⟩ := hp
  refine ⟨g, 0, rfl, by simpa [World.setCell] using h3, fun j u hu => ?_⟩
  by_cases hik : i = k
  · subst hik
    rw [List.getElem?_set_self hil] at hs
    simp only [Option.some.injEq] at hs
    subst hs
    obtain rfl : t0 = t := by rw [ht0] at ht; simpa using ht
    cases j with
    | zero =>
      simp only [encT, List.getElem?_cons_zero, Option.some.injEq] at hu
      subst hu
      have := h4 0 _ rfl
      simp only [Nat.zero_add, Nat.add_zero] at this ⊢
      exact World.cell?_setCell_same _ _ _ this
    | succ j =>
      have hu' : (encT t0)[j + 1]? = some u := by simpa [encT] using hu
      rw [World.cell?_setCell_other _ _ _ _ (by simp)]
      exact h4 (j + 1) u hu'
  · rw [List.getElem?_set_ne (by omega)] at hs
    obtain rfl : t0 = s := by rw [ht0] at hs; simpa using hs
    obtain ⟨kk, z0, z1, z2, z3, z4, z5, rfl⟩ := six_at (hl t0 (List.mem_of_getElem? ht0))
    have hj : j < 7 := by
      have := (List.getElem?_eq_some_iff.1 hu).1
      simpa [encT] using this
    rw [World.cell?_setCell_other _ _ _ _ (by simp <;> omega)]
    exact h4 j u hu
theorem neg_tn {l : List Tm} (h : ∀ t ∈ l, TV t ∧ Num t.1) : ∀ t ∈ negT l, TV t ∧ Num t.1 := fun t ht => by
  obtain ⟨s, hs, rfl⟩ := List.mem_map.1 ht
  obtain ⟨h1, h2⟩ := h s hs
  unfold Num at *
  exact ⟨⟨h1.1, by dsimp only; omega, by dsimp only; omega⟩, by dsimp only; omega, by dsimp only; omega⟩
theorem neg_len (l : List Tm) : (negT l).length = l.length := by unfold negT; rw [List.length_map]
theorem neg_vb {p : Int × Int} (h : VB2 p) : VB2 (negI2 p) := by
  unfold VB2 VI Ent Num negI2 at *
  dsimp only
  omega
theorem vb_bdY {p : Int × Int} (h : VB2 p) : -2147483648 ≤ p.1 ∧ p.1 ≤ 2147483648 ∧ -2147483648 ≤ p.2 ∧ p.2 ≤ 2147483648 := by
  unfold VB2 VI Ent Num at h
  omega
structure NgI (w : World) (q : Option Addr) (cap : Nat) (u : Value) (a : Int × Int) (l : List Tm) (k : Nat) (W : World) : Prop where
  tx : Tx W (.slice q l.length cap) (mixN l k)
  own : OwnQ (w.heap.size + 2) W q l
  arg : MoC W w.heap.size u a
  res : MoC W (w.heap.size + 1) (.slice none 0 0) (0, 0)
  bel : Below w.heap.size w W
set_option maxHeartbeats 8000000 in
theorem tneg_ok (u : Value) (a0 a1 : Int) (l : List Tm) (w : World) (hu : Tx w u l) (nu : ∀ t ∈ l, TV t ∧ Num t.1) (su : l.length ≤ 100) (hcu : CapOk u) (hv : VB2 (a0, a1)) :
    Calls Tryz.prog 21 #[.agg #[u, .int .i64 a0, .int .i64 a1]] w fun e w' => ∃ r, e = .returned (.agg #[r, .int .i64 (-a1), .int .i64 (-a0)]) ∧ Tx w' r (negT l) ∧ CapOk r ∧ Below w.heap.size w w' := by
  obtain ⟨pu, cu, rfl⟩ := hu.cut
  have hcu' : pu = none → cu = 0 := by
    obtain ⟨p, n, c, e, _, h⟩ := hcu
    simp only [Value.slice.injEq] at e
    rw [e.1, e.2.2]
    exact h
  have HU := Lib.hid hu
  have HN := Lib.hid nu
  have hbd := vb_bdY hv
  have KN := Lib.hid (fun w => iv_neg a0 a1 w hbd)
  have KC := Lib.hid (fun w h => clone_tm pu cu l w h (fun t ht => (nu t ht).1.1.1) hcu' (by omega))
  have hba : Below w.heap.size w ((w.alloc (.cells #[(.slice pu l.length cu), .int .i64 a0, .int .i64 a1] 26)).alloc (.cells #[.slice none 0 0, .int .i64 0, .int .i64 0] 26)) := (((Below.refl _ _).alloc (Nat.le_refl _) _).alloc (by simp) _)
  have hc0 : MoC ((w.alloc (.cells #[(.slice pu l.length cu), .int .i64 a0, .int .i64 a1] 26)).alloc (.cells #[.slice none 0 0, .int .i64 0, .int .i64 0] 26)) (w.heap.size) ((.slice pu l.length cu)) (a0, a1) := by
    have e := MoC.new w (.slice pu l.length cu) a0 a1
    exact (e.alloc _)
  have hc1 : MoC ((w.alloc (.cells #[(.slice pu l.length cu), .int .i64 a0, .int .i64 a1] 26)).alloc (.cells #[.slice none 0 0, .int .i64 0, .int .i64 0] 26)) (w.heap.size + 1) (.slice none 0 0) (0, 0) := by
    have e := MoC.new (w.alloc (.cells #[(.slice pu l.length cu), .int .i64 a0, .int .i64 a1] 26)) (.slice none 0 0) 0 0
    simp only [World.size_alloc] at e
    exact e
  have HC0 := Lib.hid hc0
  have HC1 := Lib.hid hc1
  have HBA := Lib.hid hba
  clear hba hc0 hc1 hu nu hcu hcu' hv hbd
  go_enter Tryz.func21, Tryz.ntmps21
  go_wp2_with (fail)
  generalize hW0 : World.alloc (World.alloc w _) _ = W0 at *
  clear hW0
  have k0 := HC0.out.c0
  try dsimp only at k0
  go_wp2_with (fail)
  refine (KC.out W0 (HU.out.grow HBA.out)).mono ?_
  rintro e w1 ⟨q, cap, rfl, hcp, hoq, htx, hB1⟩
  have hI : Hid (NgI w q cap (.slice pu l.length cu) (a0, a1) l 0 w1) := Lib.hid ⟨by simpa [mixN, negT] using htx, fun h => by
    obtain ⟨g, cur, e1, e2, e3⟩ := hoq h
    have := HC1.out.lt
    exact ⟨g, cur, e1, by omega, e3⟩, HC0.out.grow hB1, HC1.out.grow hB1, below_then HBA.out hB1⟩
  have HCP := Lib.hid hcp
  clear k0 hoq htx hB1 hcp
  go_wp2_with (fail)
  go_loopw [10] (fun i wr => ∃ k : Nat, i = .int .i64 k ∧ k ≤ l.length ∧ Hid (NgI w q cap (.slice pu l.length cu) (a0, a1) l k wr)) (fun i _ => l.length - (intOf i).toNat)
  case atStart => exact ⟨0, rfl, Nat.zero_le _, hI⟩
  case round =>
    clear hI
    obtain ⟨k, rfl, hk, HR⟩ := hrel
    by_cases hlt : k < l.length
    · have i1 : (k : Int) < l.length := by omega
      obtain ⟨g, cur, rfl, hg, hgc⟩ := HR.out.own (by omega)
      obtain ⟨t, hx⟩ : ∃ t, l[k]? = some t := ⟨_, List.getElem?_eq_getElem hlt⟩
      have htn := HN.out t (List.mem_of_getElem? hx)
      have hmx := mixN_get hx
      have hms := mixN_set hx
      have htvm : ∀ t ∈ mixN l k, TV t := fun t ht => (mixN_all (P := fun t => TV t ∧ Num t.1) HN.out (fun s hs => by
        obtain ⟨h1, h2⟩ := hs
        unfold Num at *
        exact ⟨⟨h1.1, by dsimp only; omega, by dsimp only; omega⟩, by dsimp only; omega, by dsimp only; omega⟩) t ht).1
      obtain ⟨ka, ee⟩ := t
      have hn := htn.2
      unfold Num at hn
      dsimp only at hn hms
      have Wn : IntKind.i64.wrap (-ka) = -ka := wrap_i64 _ (by omega) (by omega)
      obtain ⟨b, o, hp, hb, rd⟩ := HR.out.tx.rd hmx
      simp only [Option.some.injEq, Addr.mk.injEq, and_true] at hp
      obtain ⟨rfl, rfl⟩ := hp
      have f0 := rd ⟨wr, Below.refl _ _⟩ 0 (.int .i64 ka) rfl
      simp only [Nat.zero_add, Nat.add_zero] at f0
      have fz : wr.frozen? ⟨g, k * 7, none⟩ = false := by simp [World.frozen?, hgc]
      have HNX : Hid (NgI w (some ⟨g, 0, none⟩) cap (.slice pu l.length cu) (a0, a1) l (k + 1) (wr.setCell ⟨g, k * 7, none⟩ (.int .i64 (-ka)))) := Lib.hid ⟨by rw [← hms]; exact HR.out.tx.setc htvm hmx (-ka), fun _ => ⟨g, _, rfl, hg, cellsT_set hgc⟩, HR.out.arg.other (by omega), HR.out.res.other (by omega), HR.out.bel.setCell (p := ⟨g, k * 7, none⟩) (by dsimp only; omega) _⟩
      clear rd hmx hms htvm htn hx hgc hn
      go_wp2_with (fail)
      go_roundw
      case rel => exact ⟨k + 1, by go_num, by omega, HNX⟩
      case measure => simp [intOf]; omega
    · obtain rfl : k = l.length := by omega
      have i1 : ¬ (l.length : Int) < l.length := by omega
      have hmx : mixN l l.length = negT l := by simp [mixN]
      have htx := HR.out.tx
      rw [hmx] at htx
      have k1 := HR.out.arg.c1
      have k2 := HR.out.arg.c2
      dsimp only at k1 k2
      have htv : ∀ t ∈ negT l, TV t := fun t ht => (neg_tn HN.out t ht).1
      have HTX := Lib.hid htx
      have HTV := Lib.hid htv
      clear hmx htx htv
      go_wp2_with (fail)
      refine (KN.out _).mono ?_
      rintro e w5 ⟨rfl, h5⟩
      have hr5 := HR.out.res.grow h5
      have q0 := hr5.c0
      have q1 := hr5.c1
      have q2 := hr5.c2
      have z0 := hr5.frozen 0
      have z1 := hr5.frozen 1
      have z2 := hr5.frozen 2
      dsimp only at q0 q1 q2
      have hb5 : Below w.heap.size w w5 := HR.out.bel.trans (h5.mono HR.out.bel.size)
      clear k1 k2
      go_wp2_with (fail)
      refine bodyPost_ret (v := .agg #[.slice q l.length cap, .int .i64 (-a1), .int .i64 (-a0)]) (by simp [results, Tryz.results21, go_sem, q0, q1, q2]) rfl ⟨_, rfl, tx_moff (HTX.out.grow h5) HTV.out hr5 _ _ _, HCP.out, ?_⟩
      exact ((hb5.setCell (p := ⟨w.heap.size + 1, 0, none⟩) (Nat.le_succ _) _).setCell (p := ⟨w.heap.size + 1, 1, none⟩) (Nat.le_succ _) _).setCell (p := ⟨w.heap.size + 1, 2, none⟩) (Nat.le_succ _) _
set_option maxHeartbeats 8000000 in
theorem tsub_ok (u v : Value) (a0 a1 b0 b1 : Int) (l m : List Tm) (w : World) (hu : Tx w u l) (nu : ∀ t ∈ l, TV t ∧ Num t.1) (su : l.length ≤ 100) (hcu : CapOk u) (hv : Tx w v m) (nv : ∀ t ∈ m, TV t ∧ Num t.1) (sv : m.length ≤ 100) (hcv : CapOk v) (ha : VB2 (a0, a1)) (hb : VB2 (b0, b1)) :
    Calls Tryz.prog 19 #[.agg #[u, .int .i64 a0, .int .i64 a1], .agg #[v, .int .i64 b0, .int .i64 b1]] w fun e w' => ∃ r, e = .returned (.agg #[r, .int .i64 (addM (l, (a0, a1)) (negM (m, (b0, b1)))).2.1, .int .i64 (addM (l, (a0, a1)) (negM (m, (b0, b1)))).2.2]) ∧ Tx w' r (addM (l, (a0, a1)) (negM (m, (b0, b1)))).1 ∧ CapOk r ∧ Below w.heap.size w w' := by
  obtain ⟨pu, cu, rfl⟩ := hu.cut
  obtain ⟨pv, cv, rfl⟩ := hv.cut
  have HU := Lib.hid hu
  have HV := Lib.hid hv
  have KN := Lib.hid (fun w h => tneg_ok (.slice pv m.length cv) b0 b1 m w h nv sv hcv hb)
  have KA := Lib.hid (fun (r : Value) (w : World) h h2 hc => tadd_ok (.slice pu l.length cu) r a0 a1 (-b1) (-b0) l (negT m) w h nu su hcu h2 (neg_tn nv) (by rw [neg_len]; exact sv) hc ha (neg_vb hb))
  rw [show negM (m, (b0, b1)) = (negT m, (-b1, -b0)) from rfl]
  have htv0 : ∀ t ∈ (addM (l, (a0, a1)) (negT m, (-b1, -b0))).1, TV t := normM_tv (truncP_tvY (merge_tv nu (neg_tn nv)))
  obtain ⟨⟨N, n0, n1⟩, hn⟩ : ∃ R, addM (l, (a0, a1)) (negT m, (-b1, -b0)) = R := ⟨_, rfl⟩
  rw [hn] at KA htv0 ⊢
  dsimp only at KA htv0 ⊢
  have HTV := Lib.hid htv0
  have hba : Below w.heap.size w (((w.alloc (.cells #[(.slice pu l.length cu), .int .i64 a0, .int .i64 a1] 26)).alloc (.cells #[(.slice pv m.length cv), .int .i64 b0, .int .i64 b1] 26)).alloc (.cells #[.slice none 0 0, .int .i64 0, .int .i64 0] 26)) := ((((Below.refl _ _).alloc (Nat.le_refl _) _).alloc (by simp) _).alloc (by simp; omega) _)
  have hc0 : MoC (((w.alloc (.cells #[(.slice pu l.length cu), .int .i64 a0, .int .i64 a1] 26)).alloc (.cells #[(.slice pv m.length cv), .int .i64 b0, .int .i64 b1] 26)).alloc (.cells #[.slice none 0 0, .int .i64 0, .int .i64 0] 26)) (w.heap.size) ((.slice pu l.length cu)) (a0, a1) := by
    have e := MoC.new w (.slice pu l.length cu) a0 a1
    exact ((e.alloc _).alloc _)
  have hc1 : MoC (((w.alloc (.cells #[(.slice pu l.length cu), .int .i64 a0, .int .i64 a1] 26)).alloc (.cells #[(.slice pv m.length cv), .int .i64 b0, .int .i64 b1] 26)).alloc (.cells #[.slice none 0 0, .int .i64 0, .int .i64 0] 26)) (w.heap.size + 1) ((.slice pv m.length cv)) (b0, b1) := by
    have e := MoC.new (w.alloc (.cells #[(.slice pu l.length cu), .int .i64 a0, .int .i64 a1] 26)) (.slice pv m.length cv) b0 b1
    simp only [World.size_alloc] at e
    exact (e.alloc _)
  have hc2 : MoC (((w.alloc (.cells #[(.slice pu l.length cu), .int .i64 a0, .int .i64 a1] 26)).alloc (.cells #[(.slice pv m.length cv), .int .i64 b0, .int .i64 b1] 26)).alloc (.cells #[.slice none 0 0, .int .i64 0, .int .i64 0] 26)) (w.heap.size + 2) (.slice none 0 0) (0, 0) := by
    have e := MoC.new ((w.alloc (.cells #[(.slice pu l.length cu), .int .i64 a0, .int .i64 a1] 26)).alloc (.cells #[(.slice pv m.length cv), .int .i64 b0, .int .i64 b1] 26)) (.slice none 0 0) 0 0
    simp only [World.size_alloc] at e
    exact e
  have HC0 := Lib.hid hc0
  have HC1 := Lib.hid hc1
  have HC2 := Lib.hid hc2
  have HBA := Lib.hid hba
  clear hba hc0 hc1 hc2 hu nu su hv nv sv hcu hcv ha hb hn htv0
  go_enter Tryz.func19, Tryz.ntmps19
  go_wp2_with (fail)
  generalize hW0 : World.alloc (World.alloc (World.alloc w _) _) _ = W0 at *
  clear hW0
  have k0 := fun g : Grown W0 => (HC0.out.grow g.h).c0
  have k1 := fun g : Grown W0 => (HC0.out.grow g.h).c1
  have k2 := fun g : Grown W0 => (HC0.out.grow g.h).c2
  dsimp only at k0 k1 k2
  have j0 := fun g : Grown W0 => (HC1.out.grow g.h).c0
  have j1 := fun g : Grown W0 => (HC1.out.grow g.h).c1
  have j2 := fun g : Grown W0 => (HC1.out.grow g.h).c2
  dsimp only at j0 j1 j2
  refine region_pred_l (lk [(5, fun z_ _ => z_ = .agg #[(.slice pu l.length cu), .int .i64 a0, .int .i64 a1]), (6, fun z_ _ => z_ = .agg #[(.slice pv m.length cv), .int .i64 b0, .int .i64 b1]), (7, fun z_ w' => ∃ r, z_ = .agg #[r, .int .i64 (-b1), .int .i64 (-b0)] ∧ Tx w' r (negT m) ∧ CapOk r), (8, fun z_ w' => ∃ r, z_ = .agg #[r, .int .i64 n0, .int .i64 n1] ∧ Tx w' r N ∧ CapOk r)]) 4 _ rfl (by kernel_rfl) (by kernel_rfl) (by kernel_rfl) (lk_steady _ ⟨steady_eq _, steady_eq _, fun u w1 w2 hb ⟨r, h1, h2, h3⟩ => ⟨r, h1, h2.grow hb, h3⟩, fun u w1 w2 hb ⟨r, h1, h2, h3⟩ => ⟨r, h1, h2.grow hb, h3⟩, trivial⟩) ?_ ?_
  · refine ⟨?_, ?_, ?_, ?_, ?_, trivial⟩
    · intro _
      refine ob_plain [2] rfl rfl fun aa g h => ?_
      have yy0 := seen_out (v := .pointer (some ⟨w.heap.size, 0, none⟩)) rfl rfl h.1
      have ee0 := getD_of yy0
      exact tupon_value (v := .agg #[(.slice pu l.length cu), .int .i64 a0, .int .i64 a1]) (by simp [go_sem, ee0, yy0, k0 g, k1 g, k2 g]) (Below.refl _ _) rfl
    · intro _
      refine ob_plain [3] rfl rfl fun aa g h => ?_
      have yy0 := seen_out (v := .pointer (some ⟨w.heap.size + 1, 0, none⟩)) rfl rfl h.1
      have ee0 := getD_of yy0
      exact tupon_value (v := .agg #[(.slice pv m.length cv), .int .i64 b0, .int .i64 b1]) (by simp [go_sem, ee0, yy0, j0 g, j1 g, j2 g]) (Below.refl _ _) rfl
    · intro _
      refine ob_plain [6] rfl rfl fun aa g h => ?_
      obtain ⟨_, yy0, rfl⟩ := seen_in rfl h.1
      have ee0 := getD_of yy0
      refine tupon_enter (f := 21) (args := #[.agg #[(.slice pv m.length cv), .int .i64 b0, .int .i64 b1]]) (by simp [go_sem, ee0, yy0]) rfl ?_
      exact (KN.out g.w (HV.out.grow (below_then HBA.out g.h))).mono fun e w' ⟨r, he, hx, hc, hB⟩ => ⟨_, he, hB, ⟨r, rfl, hx, hc⟩⟩
    · intro _
      refine ob_plain [5, 7] rfl rfl fun aa g h => ?_
      obtain ⟨_, yy0, rfl⟩ := seen_in rfl h.1
      have ee0 := getD_of yy0
      obtain ⟨_, yy1, ⟨r7, rfl, tx7, cp7⟩⟩ := seen_in rfl h.2.1
      have ee1 := getD_of yy1
      refine tupon_enter (f := 17) (args := #[.agg #[(.slice pu l.length cu), .int .i64 a0, .int .i64 a1], .agg #[r7, .int .i64 (-b1), .int .i64 (-b0)]]) (by simp [go_sem, ee0, yy0, ee1, yy1]) rfl ?_
      exact (KA.out r7 g.w (HU.out.grow (below_then HBA.out g.h)) tx7 cp7).mono fun e w' ⟨r, he, hx, hc, hB⟩ => ⟨_, he, hB, ⟨r, rfl, hx, hc⟩⟩
    · exact fun h => absurd rfl h
  rintro w5 hB5 _ rfl _ rfl _ ⟨r7, rfl, tx7, cp7⟩ _ ⟨r8, rfl, tx8, cp8⟩
  simp only [Act.put, List.setIfInBounds_toArray, List.set_cons_succ, List.set_cons_zero]
  have hB6 := below_then HBA.out hB5
  have hR5 := HC2.out.grow hB5
  have q0 := hR5.c0
  have q1 := hR5.c1
  have q2 := hR5.c2
  have z0 := hR5.frozen 0
  have z1 := hR5.frozen 1
  have z2 := hR5.frozen 2
  dsimp only at q0 q1 q2
  have hne := hR5.lt
  obtain ⟨pr, nr, cr, rfl, hle, hnil⟩ := cp8
  have HX := Lib.hid tx8
  have HCP : Hid (CapOk (.slice pr nr cr)) := Lib.hid ⟨pr, nr, cr, rfl, hle, hnil⟩
  clear hle hnil
  refine ⟨_, by simp [go_sem, q0, q1, q2, z0, z1, z2]; rfl, ?_⟩
  clear k0 k1 k2 j0 j1 j2
  go_wp2_with (fail)
  have hbe := ((hB6.setCell (p := ⟨w.heap.size + 2, 0, none⟩) (by dsimp only; omega) (.slice pr nr cr)).setCell (p := ⟨w.heap.size + 2, 1, none⟩) (by dsimp only; omega) (.int .i64 n0)).setCell (p := ⟨w.heap.size + 2, 2, none⟩) (by dsimp only; omega) (.int .i64 n1)
  refine bodyPost_ret (v := .agg #[.slice pr nr cr, .int .i64 n0, .int .i64 n1]) (by simp [results, Tryz.results19, go_sem, q0, q1, q2]) rfl ⟨_, rfl, ?_, HCP.out, hbe⟩
  exact tx_moff HX.out HTV.out hR5 _ _ _
theorem const_cap (c : Int) (w : World) :
    Calls Tryz.prog 74 #[.int .i64 c] w fun e w' => ∃ u, e = .returned u ∧ Tx w' u (constT c) ∧ CapOk u ∧ Below w.heap.size w w' := by
  unfold constT
  by_cases h : c = 0
  · rw [if_pos h]
    have hd : (c == 0) = true := by simpa using h
    clear h
    go_enter Tryz.func74, Tryz.ntmps74
    go_wp2_with (fail)
    go_ret
    exact ⟨_, rfl, Tx.nil _ _ _, cap_nil, by go_grown⟩
  · rw [if_neg h]
    have hd : (c == 0) = false := by simpa using h
    clear h
    go_enter Tryz.func74, Tryz.ntmps74
    go_wp2_with (fail)
    go_ret
    exact ⟨_, rfl, tx_lit w c 0 0 0 0 0 0, ⟨_, _, _, rfl, Nat.le_refl _, by simp⟩, by go_grown⟩
theorem mid_num {p : Int × Int} (h : VB2 p) : Num (midI p) := by
  unfold VB2 VI Ent Num at h
  unfold midI Num
  omega
set_option maxHeartbeats 8000000 in
theorem tconst_ok (a0 a1 : Int) (w : World) (hv : VB2 (a0, a1)) :
    Calls Tryz.prog 33 #[.agg #[.int .i64 a0, .int .i64 a1]] w fun e w' => ∃ r, e = .returned (.agg #[r, .int .i64 (constM (a0, a1)).2.1, .int .i64 (constM (a0, a1)).2.2]) ∧ Tx w' r (constM (a0, a1)).1 ∧ CapOk r ∧ Below w.heap.size w w' := by
  have hbd := vb_bdY hv
  have hmn := mid_num hv
  have KM := Lib.hid (fun w => iv_mid a0 a1 w hbd)
  unfold constM
  unfold midI at hmn ⊢
  dsimp only at hmn ⊢
  obtain ⟨m, hm⟩ : ∃ m, (a0 + a1) / 2 = m := ⟨_, rfl⟩
  rw [hm] at KM hmn ⊢
  have KC := Lib.hid (const_cap m)
  have KP := Lib.hid (iv_point m)
  have hpv : VB2 (ptI m) := mk_vi (Int.le_refl m)
  have HTV : Hid (∀ t ∈ constT m, TV t) := Lib.hid (fun t ht => (constT_tv hmn t ht).1)
  rw [show ptI m = (mkLo m m, mkHi m m) from rfl] at hpv ⊢
  obtain ⟨p0, h0⟩ : ∃ z, mkLo m m = z := ⟨_, rfl⟩
  obtain ⟨p1, h1⟩ : ∃ z, mkHi m m = z := ⟨_, rfl⟩
  rw [h0, h1] at KP hpv ⊢
  have KS := Lib.hid (fun w => iv_sub a0 a1 p0 p1 w hv hpv)
  rw [show addI2 (a0, a1) (negI2 (p0, p1)) = (addLo a0 a1 (-p1) (-p0), addHi a0 a1 (-p1) (-p0)) from rfl]
  obtain ⟨n0, h2⟩ : ∃ z, addLo a0 a1 (-p1) (-p0) = z := ⟨_, rfl⟩
  obtain ⟨n1, h3⟩ : ∃ z, addHi a0 a1 (-p1) (-p0) = z := ⟨_, rfl⟩
  rw [h2, h3] at KS ⊢
  obtain ⟨N, hN⟩ : ∃ z, constT m = z := ⟨_, rfl⟩
  rw [hN] at KC HTV ⊢
  have hba : Below w.heap.size w ((w.alloc (.cells #[.int .i64 a0, .int .i64 a1] 24)).alloc (.cells #[.slice none 0 0, .int .i64 0, .int .i64 0] 26)) := (((Below.refl _ _).alloc (Nat.le_refl _) _).alloc (by simp) _)
  have hc0 : IvC ((w.alloc (.cells #[.int .i64 a0, .int .i64 a1] 24)).alloc (.cells #[.slice none 0 0, .int .i64 0, .int .i64 0] 26)) (w.heap.size) (a0, a1) := by
    have e := IvC.new w a0 a1
    exact (e.alloc _)
  have hc1 : MoC ((w.alloc (.cells #[.int .i64 a0, .int .i64 a1] 24)).alloc (.cells #[.slice none 0 0, .int .i64 0, .int .i64 0] 26)) (w.heap.size + 1) (.slice none 0 0) (0, 0) := by
    have e := MoC.new (w.alloc (.cells #[.int .i64 a0, .int .i64 a1] 24)) (.slice none 0 0) 0 0
    simp only [World.size_alloc] at e
    exact e
  have HC0 := Lib.hid hc0
  have HC1 := Lib.hid hc1
  have HBA := Lib.hid hba
  clear hba hc0 hc1 hv hbd hmn hm hpv h0 h1 h2 h3 hN
  go_enter Tryz.func33, Tryz.ntmps33
  go_wp2_with (fail)
  generalize hW0 : World.alloc (World.alloc w _) _ = W0 at *
  clear hW0
  have k0 := HC0.out.c0
  have k1 := HC0.out.c1
  dsimp only at k0 k1
  go_wp2_with (fail)
  refine (KM.out _).mono ?_
  rintro e w1 ⟨rfl, hB1⟩
  have HX0 := Lib.hid (HC0.out.grow hB1)
  have HX1 := Lib.hid (HC1.out.grow hB1)
  have HBB := Lib.hid (below_then HBA.out hB1)
  clear k0 k1 hB1 HC0 HC1 HBA
  go_wp2_with (fail)
  have k0 := fun g : Grown w1 => (HX0.out.grow g.h).c0
  have k1 := fun g : Grown w1 => (HX0.out.grow g.h).c1
  dsimp only at k0 k1
  obtain ⟨HC1, hq1⟩ : ∃ z : Hid (MoC w1 (w.heap.size + 1) (.slice none 0 0) (0, 0)), z = HX1 := ⟨_, rfl⟩
  obtain ⟨HBA, hq2⟩ : ∃ z : Hid (Below w.heap.size w w1), z = HBB := ⟨_, rfl⟩
  clear hq1 hq2
  refine region_pred_l (lk [(6, fun z_ _ => z_ = .int .i64 m), (7, fun z_ w' => ∃ p n c, z_ = .slice p n c ∧ Tx w' z_ N ∧ CapOk z_), (8, fun z_ _ => z_ = .agg #[.int .i64 a0, .int .i64 a1]), (9, fun z_ _ => z_ = .int .i64 m), (10, fun z_ _ => z_ = .agg #[.int .i64 p0, .int .i64 p1]), (11, fun z_ _ => z_ = .agg #[.int .i64 n0, .int .i64 n1]), (12, fun z_ w' => ∃ r, z_ = .agg #[r, .int .i64 n0, .int .i64 n1] ∧ Tx w' r N ∧ CapOk r)]) 7 _ rfl (by kernel_rfl) (by kernel_rfl) (by kernel_rfl) (lk_steady _ ⟨steady_eq _, fun u w1 w2 hb ⟨p, n, c, e, h1, h2⟩ => ⟨p, n, c, e, h1.grow hb, h2⟩, steady_eq _, steady_eq _, steady_eq _, steady_eq _, fun u w1 w2 hb ⟨r, h1, h2, h3⟩ => ⟨r, h1, h2.grow hb, h3⟩, trivial⟩) ?_ ?_
  · refine ⟨?_, ?_, ?_, ?_, ?_, ?_, ?_, ?_, trivial⟩
    · intro _
      refine ob_plain [3] rfl rfl fun aa g h => ?_
      have yy0 := seen_out (v := .int .i64 m) rfl rfl h.1
      have ee0 := getD_of yy0
      exact tupon_value (v := .int .i64 m) (by simp [go_sem, ee0, yy0]) (Below.refl _ _) rfl
    · intro _
      refine ob_plain [6] rfl rfl fun aa g h => ?_
      obtain ⟨_, yy0, rfl⟩ := seen_in rfl h.1
      have ee0 := getD_of yy0
      refine tupon_enter (f := 74) (args := #[.int .i64 m]) (by simp [go_sem, ee0, yy0]) rfl ?_
      exact (KC.out g.w).mono fun e w' ⟨r, he, hx, hc, hB⟩ => ⟨_, he, hB, (by obtain ⟨p, n, c, e1, e2⟩ := hc; exact ⟨p, n, c, e1, hx, ⟨p, n, c, e1, e2⟩⟩)⟩
    · intro _
      refine ob_plain [1] rfl rfl fun aa g h => ?_
      have yy0 := seen_out (v := .pointer (some ⟨w.heap.size, 0, none⟩)) rfl rfl h.1
      have ee0 := getD_of yy0
      exact tupon_value (v := .agg #[.int .i64 a0, .int .i64 a1]) (by simp [go_sem, ee0, yy0, k0 g, k1 g]) (Below.refl _ _) rfl
    · intro _
      refine ob_plain [3] rfl rfl fun aa g h => ?_
      have yy0 := seen_out (v := .int .i64 m) rfl rfl h.1
      have ee0 := getD_of yy0
      exact tupon_value (v := .int .i64 m) (by simp [go_sem, ee0, yy0]) (Below.refl _ _) rfl
    · intro _
      refine ob_plain [9] rfl rfl fun aa g h => ?_
      obtain ⟨_, yy0, rfl⟩ := seen_in rfl h.1
      have ee0 := getD_of yy0
      refine tupon_enter (f := 76) (args := #[.int .i64 m]) (by simp [go_sem, ee0, yy0]) rfl ?_
      exact (KP.out g.w).mono fun e w' ⟨he, hB⟩ => ⟨_, he, hB, rfl⟩
    · intro _
      refine ob_plain [8, 10] rfl rfl fun aa g h => ?_
      obtain ⟨_, yy0, rfl⟩ := seen_in rfl h.1
      have ee0 := getD_of yy0
      obtain ⟨_, yy1, rfl⟩ := seen_in rfl h.2.1
      have ee1 := getD_of yy1
      refine tupon_enter (f := 75) (args := #[.agg #[.int .i64 a0, .int .i64 a1], .agg #[.int .i64 p0, .int .i64 p1]]) (by simp [go_sem, ee0, yy0, ee1, yy1]) rfl ?_
      exact (KS.out g.w).mono fun e w' ⟨he, hB⟩ => ⟨_, he, hB, rfl⟩
    · intro _
      refine ob_plain [7, 11] rfl rfl fun aa g h => ?_
      obtain ⟨_, yy0, ⟨p7, n7, c7, rfl, tx7, cp7⟩⟩ := seen_in rfl h.1
      have ee0 := getD_of yy0
      obtain ⟨_, yy1, rfl⟩ := seen_in rfl h.2.1
      have ee1 := getD_of yy1
      exact tupon_value (v := .agg #[.slice p7 n7 c7, .int .i64 n0, .int .i64 n1]) (by simp [go_sem, ee0, yy0, ee1, yy1]) (Below.refl _ _) ⟨_, rfl, tx7, cp7⟩
    · exact fun h => absurd rfl h
  rintro w5 hB5 _ rfl _ ⟨p7, n7, c7, rfl, tx7, cp7⟩ _ rfl _ rfl _ rfl _ rfl _ ⟨r12, rfl, tx12, cp12⟩
  simp only [Act.put, List.setIfInBounds_toArray, List.set_cons_succ, List.set_cons_zero]
  have hB6 := below_then HBA.out hB5
  have hR5 := HC1.out.grow hB5
  have q0 := hR5.c0
  have q1 := hR5.c1
  have q2 := hR5.c2
  have z0 := hR5.frozen 0
  have z1 := hR5.frozen 1
  have z2 := hR5.frozen 2
  dsimp only at q0 q1 q2
  have hne := hR5.lt
  obtain ⟨pr, nr, cr, rfl, hle, hnil⟩ := cp12
  have HX := Lib.hid tx12
  have HCP : Hid (CapOk (.slice pr nr cr)) := Lib.hid ⟨pr, nr, cr, rfl, hle, hnil⟩
  clear hle hnil
  refine ⟨_, by simp [go_sem, q0, q1, q2, z0, z1, z2]; rfl, ?_⟩
  clear k0 k1
  go_wp2_with (fail)
  have hbe := ((hB6.setCell (p := ⟨w.heap.size + 1, 0, none⟩) (by dsimp only; omega) (.slice pr nr cr)).setCell (p := ⟨w.heap.size + 1, 1, none⟩) (by dsimp only; omega) (.int .i64 n0)).setCell (p := ⟨w.heap.size + 1, 2, none⟩) (by dsimp only; omega) (.int .i64 n1)
  refine bodyPost_ret (v := .agg #[.slice pr nr cr, .int .i64 n0, .int .i64 n1]) (by simp [results, Tryz.results33, go_sem, q0, q1, q2]) rfl ⟨_, rfl, ?_, HCP.out, hbe⟩
  exact tx_moff HX.out HTV.out hR5 _ _ _
theorem const_tn {p : Int × Int} (h : VB2 p) : ∀ t ∈ (constM p).1, TV t ∧ Num t.1 := constT_tv (mid_num h)
theorem constM_len (p : Int × Int) : (constM p).1.length ≤ 100 := Nat.le_trans (constT_len _) (by decide)
theorem constM_vb {p : Int × Int} (h : VB2 p) : VB2 (constM p).2 := addI2_vb h (neg_vb (mk_vi (Int.le_refl _)))
theorem mulM_tv {a b : Mo} {deg : Int} (ha : ∀ t ∈ a.1, TV t ∧ Num t.1) (hb : ∀ t ∈ b.1, TV t ∧ Num t.1) (h1 : a.1.length ≤ 100) (h2 : b.1.length ≤ 100) : ∀ t ∈ (mulM a b deg).1, TV t :=
  normM_tv (truncP_tvY (mulP_tv ha hb (Nat.le_trans (Nat.mul_le_mul h1 h2) (by decide))))
set_option maxHeartbeats 8000000 in
theorem tmuli_ok (u : Value) (a0 a1 c0 c1 : Int) (l : List Tm) (w : World) (hu : Tx w u l) (nu : ∀ t ∈ l, TV t ∧ Num t.1) (su : l.length ≤ 100) (ha : VB2 (a0, a1)) (hc : VB2 (c0, c1)) :
    Calls Tryz.prog 25 #[.agg #[u, .int .i64 a0, .int .i64 a1], .agg #[.int .i64 c0, .int .i64 c1]] w fun e w' => ∃ r, e = .returned (.agg #[r, .int .i64 (mulM (l, (a0, a1)) (constM (c0, c1)) 6).2.1, .int .i64 (mulM (l, (a0, a1)) (constM (c0, c1)) 6).2.2]) ∧ Tx w' r (mulM (l, (a0, a1)) (constM (c0, c1)) 6).1 ∧ CapOk r ∧ Below w.heap.size w w' := by
  obtain ⟨pu, cu, rfl⟩ := hu.cut
  have HU := Lib.hid hu
  have KC := Lib.hid (fun w => tconst_ok c0 c1 w hc)
  have ctn := const_tn hc
  have cln := constM_len (c0, c1)
  have cvb := constM_vb hc
  obtain ⟨⟨C, d0, d1⟩, hC⟩ : ∃ R, constM (c0, c1) = R := ⟨_, rfl⟩
  rw [hC] at KC ctn cln cvb ⊢
  dsimp only at KC ctn cln cvb
  have KM := Lib.hid (fun (r : Value) (w : World) h h2 => tmul_ok (.slice pu l.length cu) r a0 a1 d0 d1 6 l C w h nu su h2 ctn cln ha cvb)
  have htv0 : ∀ t ∈ (mulM (l, (a0, a1)) (C, (d0, d1)) 6).1, TV t := mulM_tv nu ctn su cln
  obtain ⟨⟨N, n0, n1⟩, hn⟩ : ∃ R, mulM (l, (a0, a1)) (C, (d0, d1)) 6 = R := ⟨_, rfl⟩
  rw [hn] at KM htv0 ⊢
  dsimp only at KM htv0 ⊢
  have HTV := Lib.hid htv0
  have hba : Below w.heap.size w (((w.alloc (.cells #[(.slice pu l.length cu), .int .i64 a0, .int .i64 a1] 26)).alloc (.cells #[.int .i64 c0, .int .i64 c1] 24)).alloc (.cells #[.slice none 0 0, .int .i64 0, .int .i64 0] 26)) := ((((Below.refl _ _).alloc (Nat.le_refl _) _).alloc (by simp) _).alloc (by simp; omega) _)
  have hc0 : MoC (((w.alloc (.cells #[(.slice pu l.length cu), .int .i64 a0, .int .i64 a1] 26)).alloc (.cells #[.int .i64 c0, .int .i64 c1] 24)).alloc (.cells #[.slice none 0 0, .int .i64 0, .int .i64 0] 26)) (w.heap.size) ((.slice pu l.length cu)) (a0, a1) := by
    have e := MoC.new w (.slice pu l.length cu) a0 a1
    exact ((e.alloc _).alloc _)
  have hc1 : IvC (((w.alloc (.cells #[(.slice pu l.length cu), .int .i64 a0, .int .i64 a1] 26)).alloc (.cells #[.int .i64 c0, .int .i64 c1] 24)).alloc (.cells #[.slice none 0 0, .int .i64 0, .int .i64 0] 26)) (w.heap.size + 1) (c0, c1) := by
    have e := IvC.new (w.alloc (.cells #[(.slice pu l.length cu), .int .i64 a0, .int .i64 a1] 26)) c0 c1
    simp only [World.size_alloc] at e
    exact (e.alloc _)
  have hc2 : MoC (((w.alloc (.cells #[(.slice pu l.length cu), .int .i64 a0, .int .i64 a1] 26)).alloc (.cells #[.int .i64 c0, .int .i64 c1] 24)).alloc (.cells #[.slice none 0 0, .int .i64 0, .int .i64 0] 26)) (w.heap.size + 2) (.slice none 0 0) (0, 0) := by
    have e := MoC.new ((w.alloc (.cells #[(.slice pu l.length cu), .int .i64 a0, .int .i64 a1] 26)).alloc (.cells #[.int .i64 c0, .int .i64 c1] 24)) (.slice none 0 0) 0 0
    simp only [World.size_alloc] at e
    exact e
  have HC0 := Lib.hid hc0
  have HC1 := Lib.hid hc1
  have HC2 := Lib.hid hc2
  have HBA := Lib.hid hba
  clear hba hc0 hc1 hc2 hu nu su ha hc hn htv0 ctn cln cvb hC
  go_enter Tryz.func25, Tryz.ntmps25
  go_wp2_with (fail)
  generalize hW0 : World.alloc (World.alloc (World.alloc w _) _) _ = W0 at *
  clear hW0
  have k0 := fun g : Grown W0 => (HC0.out.grow g.h).c0
  have k1 := fun g : Grown W0 => (HC0.out.grow g.h).c1
  have k2 := fun g : Grown W0 => (HC0.out.grow g.h).c2
  dsimp only at k0 k1 k2
  have j0 := fun g : Grown W0 => (HC1.out.grow g.h).c0
  have j1 := fun g : Grown W0 => (HC1.out.grow g.h).c1
  dsimp only at j0 j1
  refine region_pred_l (lk [(5, fun z_ _ => z_ = .agg #[(.slice pu l.length cu), .int .i64 a0, .int .i64 a1]), (6, fun z_ _ => z_ = .agg #[.int .i64 c0, .int .i64 c1]), (7, fun z_ w' => ∃ r, z_ = .agg #[r, .int .i64 d0, .int .i64 d1] ∧ Tx w' r C ∧ CapOk r), (8, fun z_ w' => ∃ r, z_ = .agg #[r, .int .i64 n0, .int .i64 n1] ∧ Tx w' r N ∧ CapOk r)]) 4 _ rfl (by kernel_rfl) (by kernel_rfl) (by kernel_rfl) (lk_steady _ ⟨steady_eq _, steady_eq _, fun u w1 w2 hb ⟨r, h1, h2, h3⟩ => ⟨r, h1, h2.grow hb, h3⟩, fun u w1 w2 hb ⟨r, h1, h2, h3⟩ => ⟨r, h1, h2.grow hb, h3⟩, trivial⟩) ?_ ?_
  · refine ⟨?_, ?_, ?_, ?_, ?_, trivial⟩
    · intro _
      refine ob_plain [2] rfl rfl fun aa g h => ?_
      have yy0 := seen_out (v := .pointer (some ⟨w.heap.size, 0, none⟩)) rfl rfl h.1
      have ee0 := getD_of yy0
      exact tupon_value (v := .agg #[(.slice pu l.length cu), .int .i64 a0, .int .i64 a1]) (by simp [go_sem, ee0, yy0, k0 g, k1 g, k2 g]) (Below.refl _ _) rfl
    · intro _
      refine ob_plain [3] rfl rfl fun aa g h => ?_
      have yy0 := seen_out (v := .pointer (some ⟨w.heap.size + 1, 0, none⟩)) rfl rfl h.1
      have ee0 := getD_of yy0
      exact tupon_value (v := .agg #[.int .i64 c0, .int .i64 c1]) (by simp [go_sem, ee0, yy0, j0 g, j1 g]) (Below.refl _ _) rfl
    · intro _
      refine ob_plain [6] rfl rfl fun aa g h => ?_
      obtain ⟨_, yy0, rfl⟩ := seen_in rfl h.1
      have ee0 := getD_of yy0
      refine tupon_enter (f := 33) (args := #[.agg #[.int .i64 c0, .int .i64 c1]]) (by simp [go_sem, ee0, yy0]) rfl ?_
      exact (KC.out g.w).mono fun e w' ⟨r, he, hx, hc, hB⟩ => ⟨_, he, hB, ⟨r, rfl, hx, hc⟩⟩
    · intro _
      refine ob_plain [5, 7] rfl rfl fun aa g h => ?_
      obtain ⟨_, yy0, rfl⟩ := seen_in rfl h.1
      have ee0 := getD_of yy0
      obtain ⟨_, yy1, ⟨r7, rfl, tx7, cp7⟩⟩ := seen_in rfl h.2.1
      have ee1 := getD_of yy1
      refine tupon_enter (f := 23) (args := #[.agg #[(.slice pu l.length cu), .int .i64 a0, .int .i64 a1], .agg #[r7, .int .i64 d0, .int .i64 d1], .int .i64 6]) (by simp [go_sem, ee0, yy0, ee1, yy1]) rfl ?_
      exact (KM.out r7 g.w (HU.out.grow (below_then HBA.out g.h)) tx7).mono fun e w' ⟨r, he, hx, hc, hB⟩ => ⟨_, he, hB, ⟨r, rfl, hx, hc⟩⟩
    · exact fun h => absurd rfl h
  rintro w5 hB5 _ rfl _ rfl _ ⟨r7, rfl, tx7, cp7⟩ _ ⟨r8, rfl, tx8, cp8⟩
  simp only [Act.put, List.setIfInBounds_toArray, List.set_cons_succ, List.set_cons_zero]
  have hB6 := below_then HBA.out hB5
  have hR5 := HC2.out.grow hB5
  have q0 := hR5.c0
  have q1 := hR5.c1
  have q2 := hR5.c2
  have z0 := hR5.frozen 0
  have z1 := hR5.frozen 1
  have z2 := hR5.frozen 2
  dsimp only at q0 q1 q2
  have hne := hR5.lt
  obtain ⟨pr, nr, cr, rfl, hle, hnil⟩ := cp8
  have HX := Lib.hid tx8
  have HCP : Hid (CapOk (.slice pr nr cr)) := Lib.hid ⟨pr, nr, cr, rfl, hle, hnil⟩
  clear hle hnil
  refine ⟨_, by simp [go_sem, q0, q1, q2, z0, z1, z2]; rfl, ?_⟩
  clear k0 k1 k2 j0 j1
  go_wp2_with (fail)
  have hbe := ((hB6.setCell (p := ⟨w.heap.size + 2, 0, none⟩) (by dsimp only; omega) (.slice pr nr cr)).setCell (p := ⟨w.heap.size + 2, 1, none⟩) (by dsimp only; omega) (.int .i64 n0)).setCell (p := ⟨w.heap.size + 2, 2, none⟩) (by dsimp only; omega) (.int .i64 n1)
  refine bodyPost_ret (v := .agg #[.slice pr nr cr, .int .i64 n0, .int .i64 n1]) (by simp [results, Tryz.results25, go_sem, q0, q1, q2]) rfl ⟨_, rfl, ?_, HCP.out, hbe⟩
  exact tx_moff HX.out HTV.out hR5 _ _ _
end Go.Proofs.YtbfhmbadgbackaaGreat
