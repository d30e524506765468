/-
  Matrices of the call's own.
  slices.Grow of nil and slices.Concat of two boxes.
  The reference's Identity for matrices.
  Inverse: the augmented rows.
  Inverse: mignitude and the pivot's row.
  Inverse: the elimination of a column.
  slices.ContainsFunc with interval.IsEntire.
  Inverse: the right half of the rows.
  matrix.Inverse.
-/
import Derived.Test.YtmcdkbnpcmiojaaMx
import Derived.Lib.AppendZeros
import Derived.Test.YtmcdkbnpcmiojaaR2
import Derived.Test.YtmcdkbnpcmiojaaMap2
import Derived.Test.YtmcdkbnpcmiojaaIw9
import Derived.Test.YtmcdkbnpcmiojaaIw4a
import Derived.Test.YtmcdkbnpcmiojaaIvMath
import Derived.RegionTactic
import Derived.ChangeAlike
import Derived.BigRegion
namespace Go.Proofs.Ytmcdkbnpcmiojaa
open Go.ChangeShapes Go.WideShapes Go.ChangeAt Go.RowKit
set_option linter.unusedVariables false
set_option linter.unusedSimpArgs false
set_option maxRecDepth 100000

attribute [local irreducible] Calls
theorem own_type {W : World} {B B' g s s' n n' c c' : Nat} {t t' : TypeId} {xs ys : List Value} (h : W.ownsRow B t s (.slice (some ⟨g, 0, none⟩) n c) n xs) (k : W.ownsRow B' t' s' (.slice (some ⟨g, 0, none⟩) n' c') n' ys) : t = t' := by
  rcases h.2 with ⟨e, _⟩ | ⟨g1, c1, u1, e1, _, h1, _⟩
  · cases e
  rcases k.2 with ⟨e, _⟩ | ⟨g2, c2, u2, e2, _, h2, _⟩
  · cases e
  simp only [Value.slice.injEq, Option.some.injEq, Addr.mk.injEq, true_and, and_true] at e1 e2
  obtain ⟨rfl, rfl⟩ := e1
  obtain ⟨rfl, rfl⟩ := e2
  rw [h1] at h2
  have := Option.some.inj h2
  simp only [Obj.cells.injEq] at this
  exact this.2.1
/-- A matrix of the call's own: its rows lie in blocks of their own. -/
structure OwnM (B : Nat) (w : World) (v : Value) (us : List Value) (M : List (List (Int × Int))) : Prop where
  out : w.ownsRow B 40 1 v M.length us
  row : ∀ (i : Nat) (r : List (Int × Int)), M[i]? = some r → ∃ R c, us[i]? = some (Value.slice (some ⟨R, 0, none⟩) r.length c) ∧ w.ownsRow B 38 2 (.slice (some ⟨R, 0, none⟩) r.length c) r.length (cz r)
  far : ∀ (i j R n c n' c' : Nat), us[i]? = some (Value.slice (some ⟨R, 0, none⟩) n c) → us[j]? = some (Value.slice (some ⟨R, 0, none⟩) n' c') → i = j
theorem OwnM.at {B : Nat} {w : World} {v : Value} {us : List Value} {M : List (List (Int × Int))} (h : OwnM B w v us M) {i : Nat} {r : List (Int × Int)} (hr : M[i]? = some r) : ∃ O R c' c, v = .slice (some ⟨O, 0, none⟩) M.length c' ∧ us[i]? = some (Value.slice (some ⟨R, 0, none⟩) r.length c) ∧ B ≤ O ∧ O < w.heap.size ∧ B ≤ R ∧ R < w.heap.size ∧ O ≠ R ∧
    w.cell? ⟨O, i, none⟩ = some (Value.slice (some ⟨R, 0, none⟩) r.length c) ∧ w.ownsRow B 38 2 (.slice (some ⟨R, 0, none⟩) r.length c) r.length (cz r) := by
  obtain ⟨R, c, hu, hrow⟩ := h.row i r hr
  have hi : i < M.length := (List.getElem?_eq_some_iff.1 hr).1
  rcases h.out.2 with ⟨_, e⟩ | ⟨O, c', cur, e, _⟩
  · omega
  subst e
  have ho := h.out.lt O rfl
  have hR := hrow.lt R rfl
  have hne : O ≠ R := by
    rintro rfl
    have := own_type h.out hrow
    exact absurd this (by decide)
  have hc := h.out.cellAt i (by omega)
  rw [hu] at hc
  exact ⟨O, R, c', c, rfl, hu, ho.1, ho.2, hR.1, hR.2, hne, hc, hrow⟩
theorem OwnM.kept {B : Nat} {w w' : World} {v : Value} {us : List Value} {M : List (List (Int × Int))} (h : OwnM B w v us M) (hb : Below w.heap.size w w') : OwnM B w' v us M :=
  ⟨h.out.kept (grown_below hb) (by rcases h.out.2 with ⟨e, _⟩ | ⟨O, c', cur, e, _⟩; exact .inl (by rw [e]; rfl); exact .inr (by rw [e]; simp [Value.ownBlock])),
   fun i r hr => by
    obtain ⟨R, c, h1, h2⟩ := h.row i r hr
    exact ⟨R, c, h1, h2.kept (grown_below hb) (.inr (by simp [Value.ownBlock]))⟩,
   h.far⟩
theorem OwnM.mx {B : Nat} {w : World} {v : Value} {us : List Value} {M : List (List (Int × Int))} (h : OwnM B w v us M) (hl : M.length ≤ maxLen) (hr : ∀ r ∈ M, r.length ≤ maxLen) : Mx w v M :=
  Lx.own h.out hl fun k u x hu hx => by
    obtain ⟨R, c, h1, h2⟩ := h.row k x hx
    rw [h1] at hu
    rw [← Option.some.inj hu]
    exact Bx.own h2 (hr x (List.mem_of_getElem? hx))
theorem cz_set2 : ∀ (l : List (Int × Int)) (k : Nat) (u v : Int), cz (l.set k (u, v)) = ((cz l).set (k * 2) (.int .i64 u)).set (k * 2 + 1) (.int .i64 v)
  | [], k, u, v => by simp [cz]
  | p :: l, 0, u, v => by simp [cz]
  | p :: l, k + 1, u, v => by
    have := cz_set2 l k u v
    rw [show (k + 1) * 2 = k * 2 + 1 + 1 by omega, show k * 2 + 1 + 1 + 1 = (k * 2 + 1) + 1 + 1 by omega]
    simp only [List.set_cons_succ, cz, this]
theorem OwnM.set {B : Nat} {w : World} {v : Value} {us : List Value} {M : List (List (Int × Int))} {i k R c : Nat} {r : List (Int × Int)} {x y : Int} (h : OwnM B w v us M) (hr : M[i]? = some r) (hu : us[i]? = some (Value.slice (some ⟨R, 0, none⟩) r.length c)) :
    OwnM B ((w.setCell ⟨R, k * 2, none⟩ (.int .i64 x)).setCell ⟨R, k * 2 + 1, none⟩ (.int .i64 y)) v us (M.set i (r.set k (x, y))) := by
  obtain ⟨O, R', c', c2, hv, hu', _, _, _, _, hne, _, hrow⟩ := h.at hr
  rw [hu] at hu'
  have e := Option.some.inj hu'
  simp only [Value.slice.injEq, Option.some.injEq, Addr.mk.injEq, true_and, and_true] at e
  obtain ⟨rfl, rfl⟩ := e
  have s1 := hrow.stored (k * 2) (.int .i64 x)
  have s2 := s1.1.stored (k * 2 + 1) (.int .i64 y)
  rw [← cz_set2] at s2
  have hnb : ∀ (O : Nat) (n c : Nat), O ≠ R → (Value.slice (some ⟨O, 0, none⟩) n c).ownBlock = none ∨ (Value.slice (some ⟨O, 0, none⟩) n c).ownBlock ≠ some R := fun O n c hne => .inr (by simpa [Value.ownBlock] using hne)
  refine ⟨?_, fun j s hs => ?_, h.far⟩
  · rw [List.length_set]
    have ho := h.out
    rw [hv] at ho ⊢
    exact (ho.kept s1.2 (hnb _ _ _ hne)).kept s2.2 (hnb _ _ _ hne)
  · by_cases e : j = i
    · subst e
      have hl : j < M.length := (List.getElem?_eq_some_iff.1 hr).1
      rw [List.getElem?_set_self hl] at hs
      rw [← Option.some.inj hs]
      exact ⟨R, c, by rw [List.length_set]; exact hu, by rw [List.length_set]; exact s2.1⟩
    · rw [List.getElem?_set_ne (fun q => e q.symm)] at hs
      obtain ⟨R2, c3, g1, g2⟩ := h.row j s hs
      have hn2 : R2 ≠ R := by
        rintro rfl
        exact e (h.far j i _ _ _ _ _ g1 hu)
      exact ⟨R2, c3, g1, (g2.kept s1.2 (hnb _ _ _ hn2)).kept s2.2 (hnb _ _ _ hn2)⟩
end Go.Proofs.Ytmcdkbnpcmiojaa

namespace Go.Proofs.Ytmcdkbnpcmiojaa
open Go.ChangeShapes Go.WideShapes Go.ChangeAt Go.RowKit
set_option linter.unusedVariables false
set_option linter.unusedSimpArgs false
set_option maxRecDepth 100000

theorem cz_one4 : ∀ (l : List (Int × Int)), ∀ u ∈ cz l, u.oneCell' = true
  | [], u, h => by simp [cz] at h
  | p :: l, u, h => by
    simp only [cz, List.mem_cons] at h
    rcases h with rfl | rfl | h
    · rfl
    · rfl
    · exact cz_one4 l u h
theorem add_off4 (b o j : Nat) : (⟨b, o, none⟩ : Addr).add j = ⟨b, o + j, none⟩ := by
  by_cases h : j = 0
  · subst h; simp [Addr.add]
  · simp [Addr.add, h]
theorem cz_cells4 {w : World} {l : List (Int × Int)} {b o : Nat} (h : ∀ k x, l[k]? = some x → ∃ b' o', (some ⟨b, o, none⟩ : Option Addr) = some ⟨b', o', none⟩ ∧ b' < w.heap.size ∧ w.cell? ⟨b', o' + k * 2, none⟩ = some (.int .i64 x.1) ∧ w.cell? ⟨b', o' + k * 2 + 1, none⟩ = some (.int .i64 x.2)) :
    ∀ j u, (cz l)[j]? = some u → w.cell? ((⟨b, o, none⟩ : Addr).add j) = some u := by
  intro j u hj
  have hjl : j < l.length * 2 := by rw [← cz_len]; exact (List.getElem?_eq_some_iff.1 hj).1
  have hk : j / 2 < l.length := by omega
  obtain ⟨b', o', e, h1, h2, h3⟩ := h (j / 2) l[j / 2] (List.getElem?_eq_getElem hk)
  obtain ⟨g1, g2⟩ := cz_get l (j / 2) l[j / 2] (List.getElem?_eq_getElem hk)
  simp only [Option.some.injEq, Addr.mk.injEq, and_true] at e
  obtain ⟨rfl, rfl⟩ := e
  rcases Nat.mod_two_eq_zero_or_one j with hm | hm
  · have hj2 : j / 2 * 2 = j := by omega
    rw [hj2] at g1 h2
    rw [g1] at hj
    rw [← hj]
    rw [add_off4]
    exact h2
  · have hj2 : j / 2 * 2 + 1 = j := by omega
    rw [hj2] at g2
    rw [g2] at hj
    rw [← hj]
    have : o + j / 2 * 2 + 1 = o + j := by omega
    rw [this] at h3
    rw [add_off4]
    exact h3
theorem cz_append : ∀ (l m : List (Int × Int)), cz (l ++ m) = cz l ++ cz m
  | [], m => by simp [cz]
  | p :: l, m => by simp [cz, cz_append l m]
attribute [local irreducible] Calls

set_option maxHeartbeats 2000000 in
theorem grow_nil (n : Nat) (w : World) (h0 : 0 < n) (hn : n ≤ 1000) :
    Calls Try.prog 80 #[.slice none 0 0, .int .i64 (n : Int)] w fun e W' => ∃ c, e = .returned (.slice (some ⟨w.heap.size, 0, none⟩) 0 c) ∧ W'.ownsRow w.heap.size 38 2 (.slice (some ⟨w.heap.size, 0, none⟩) 0 c) 0 [] ∧ Below w.heap.size w W' := by
  obtain ⟨i0, hi, hz0, hz1, hz2⟩ := info_parts info_iv
  have hr := Lib.run_append_nil_zeros (P := Try.prog) w 40 3 40 38 i0 (.agg #[.int .i64 0, .int .i64 0]) .i64 .i64 Try.underlying40 Try.underlying3 hi hz0 n h0 (by rw [hz1]; decide) (by omega) (by rw [hz2]; omega)
  have hge := grownCap_ge w n 0 38
  have hcm : grownCap w n 0 38 ≤ maxLen := grownCap_le_maxLen w n 0 38 (by unfold maxLen; omega)
  have hown : (w.drew.alloc (.cells (Builtin.zeroCells (Value.cells (.agg #[.int .i64 0, .int .i64 0])) n ++ Builtin.zeroCells (Value.cells (.agg #[.int .i64 0, .int .i64 0])) (grownCap w n 0 38 - n)) 38)).ownsRow w.heap.size 38 2 (.slice (some ⟨w.heap.size, 0, none⟩) 0 (grownCap w n 0 38)) 0 [] := by
    refine ⟨rfl, .inr ⟨w.heap.size, _, _, rfl, Nat.le_refl _, heap_alloc_new w.drew _, Nat.zero_le _, hcm, ?_, rfl⟩⟩
    simp only [Array.size_append, size_zeroCells, Value.cells, List.size_toArray, List.length_cons, List.length_nil]
    omega
  have hB : Below w.heap.size w (w.drew.alloc (.cells (Builtin.zeroCells (Value.cells (.agg #[.int .i64 0, .int .i64 0])) n ++ Builtin.zeroCells (Value.cells (.agg #[.int .i64 0, .int .i64 0])) (grownCap w n 0 38 - n)) 38)) := by
    go_grown
  generalize hW : w.drew.alloc _ = W at *
  generalize hC : grownCap w n 0 38 = C at *
  clear hW hC hge hcm hi hz0 hz1 hz2
  have HR := Lib.hid hr
  clear hr
  have s1 : decide ((n : Int) < 0) = false := decide_eq_false (by omega)
  have s2 : decide (0 < (n : Int)) = true := decide_eq_true (by omega)
  go_enter Try.func80, Try.ntmps80
  go_wp2_with (at_builtin; refine Lib.wpList_append_run _ rfl _ _ _ _ rfl _ _ rfl rfl _ _ HR.out ?_)
  go_ret
  exact ⟨_, rfl, hown, hB⟩

theorem flat_take {M : List (List (Int × Int))} {k : Nat} {r : List (Int × Int)} (h : M[k]? = some r) : (M.take (k + 1)).flatten = (M.take k).flatten ++ r := by
  rw [List.take_add_one, h]
  simp
theorem flat_le (M : List (List (Int × Int))) (k : Nat) : (M.take k).flatten.length ≤ M.flatten.length := by
  have := congrArg (fun l => (List.flatten l).length) (List.take_append_drop k M)
  simp only [List.flatten_append, List.length_append] at this
  omega
set_option maxHeartbeats 4000000 in
theorem concat_ok (v : Value) (M : List (List (Int × Int))) (w : World) (hv : Mx w v M) (h0 : 0 < M.flatten.length) (hn : M.flatten.length ≤ 1000) (hr : ∀ r ∈ M, 0 < r.length) :
    Calls Try.prog 64 #[v] w fun e W' => ∃ R c, e = .returned (.slice (some ⟨R, 0, none⟩) M.flatten.length c) ∧ W'.ownsRow w.heap.size 38 2 (.slice (some ⟨R, 0, none⟩) M.flatten.length c) M.flatten.length (cz M.flatten) ∧ Below w.heap.size w W' := by
  obtain ⟨i0, hi, hz0, hz1, hz2⟩ := info_parts info_iv
  have hml := hv.1
  unfold maxLen at hml
  obtain ⟨p, c, rfl⟩ := hv.cut
  have HV := Lib.hid hv
  have HR := Lib.hid hr
  clear hv hr
  have el : Hid (∀ i, i < M.length → ∃ (b o b2 o2 c2 : Nat) (r : List (Int × Int)), M[i]? = some r ∧ 0 < r.length ∧ p = some ⟨b, o, none⟩ ∧ b2 < w.heap.size ∧ (∀ g : Grown w, g.w.cell? ⟨b, o + i, none⟩ = some (.slice (some ⟨b2, o2, none⟩) r.length c2)) ∧ (∀ j u, (cz r)[j]? = some u → w.cell? ((⟨b2, o2, none⟩ : Addr).add j) = some u)) := Lib.hid (fun i hi => by
    obtain ⟨r, hr⟩ : ∃ r, M[i]? = some r := ⟨_, List.getElem?_eq_getElem hi⟩
    have hkr := HR.out r (List.mem_of_getElem? hr)
    obtain ⟨b, o, ur, hp, hb, rd⟩ := HV.out.rd grows_bx hr
    have hbr := (rd ⟨w, Below.refl _ _⟩).2.2
    dsimp only at hbr
    obtain ⟨hl2, pr, cr, rfl, hpp⟩ := hbr
    obtain ⟨b2, o2, e1, e2, _⟩ := hpp 0 _ (List.getElem?_eq_getElem hkr)
    subst e1
    exact ⟨b, o, b2, o2, cr, r, hr, hkr, hp, e2, fun g => (rd g).2.1, cz_cells4 hpp⟩)
  obtain ⟨N, hN⟩ : ∃ N, M.flatten.length = N := ⟨_, rfl⟩
  rw [hN] at h0 hn ⊢
  have HN := Lib.hid hN
  clear hN
  go_enter Try.func64, Try.ntmps64
  go_wp2_with (fail)
  go_loopw [3, 11] (fun s i wr => ∃ k : Nat, i = .int .i64 k ∧ k ≤ M.length ∧ s = .int .i64 ((M.take k).flatten.length : Int) ∧ w = wr) (fun _ i _ => M.length - (intOf i).toNat)
  case atStart => exact ⟨0, rfl, Nat.zero_le _, by simp, rfl⟩
  case round =>
    obtain ⟨k, rfl, hk, rfl, rfl⟩ := hrel
    by_cases hlt : k < M.length
    · have ik : (k : Int) < M.length := by omega
      obtain ⟨b, o, b2, o2, c2, r, hrk, hr0, hp, hb2, hc, _⟩ := el.out k hlt
      subst hp
      have hcw := hc ⟨w, Below.refl _ _⟩
      dsimp only at hcw
      clear hc
      have hft := flat_take hrk
      have hfl := flat_le M (k + 1)
      rw [HN.out] at hfl
      have hlen : ((M.take (k + 1)).flatten.length : Int) = (M.take k).flatten.length + r.length := by rw [hft, List.length_append]; push_cast; rfl
      have HL := Lib.hid hlen
      have hs : (0 : Int) ≤ ((M.take k).flatten.length : Int) + (r.length : Int) := by omega
      have hs2 : ((M.take k).flatten.length : Int) + (r.length : Int) ≤ 1000 := by omega
      have hs3 : decide (((M.take k).flatten.length : Int) + (r.length : Int) < 0) = false := decide_eq_false (by omega)
      clear hft hlen hrk hfl
      generalize (M.take k).flatten.length = q at *
      generalize r.length = m at *
      go_wp2_with (fail)
      go_roundw
      case rel => exact ⟨k + 1, by go_num, by omega, by rw [HL.out], trivial⟩
      case measure => simp [intOf]; omega
    · obtain rfl : k = M.length := by omega
      have htk : (M.take M.length).flatten.length = N := by rw [List.take_length, HN.out]
      rw [htk]
      clear htk
      go_wp2_with (fail)
      refine (grow_nil N _ h0 hn).mono ?_
      rintro e w1 ⟨c1, rfl, hown1, hB1⟩
      have HO1 := Lib.hid hown1
      clear hown1
      go_wp2_with (fail)
      go_loopw [6, 27] (fun s i wr => ∃ (k R c3 : Nat), i = .int .i64 k ∧ k ≤ M.length ∧ s = .slice (some ⟨R, 0, none⟩) (M.take k).flatten.length c3 ∧ Hid (wr.ownsRow w.heap.size 38 2 (.slice (some ⟨R, 0, none⟩) (M.take k).flatten.length c3) (M.take k).flatten.length (cz (M.take k).flatten)) ∧ Below w.heap.size w wr) (fun _ i _ => M.length - (intOf i).toNat)
      case atStart => exact ⟨0, _, _, rfl, Nat.zero_le _, rfl, HO1, hB1⟩
      case round =>
        clear HO1 hB1
        obtain ⟨k, R, c3, rfl, hk3, rfl, HO, hB⟩ := hrel
        by_cases hlt3 : k < M.length
        · have ik : (k : Int) < M.length := by omega
          obtain ⟨b, o, b2, o2, c2, r, hrk, hr0, hp, hb2, hc, hcs⟩ := el.out k hlt3
          subst hp
          have hcw := hc ⟨_, hB⟩
          dsimp only at hcw
          clear hc
          have hft := Lib.hid (flat_take hrk)
          have hfl := flat_le M (k + 1)
          rw [HN.out] at hfl
          have hlen : Hid ((M.take (k + 1)).flatten.length = (M.take k).flatten.length + r.length) := Lib.hid (by rw [hft.out, List.length_append])
          have hle : (M.take k).flatten.length + r.length ≤ 1000 := by have := hlen.out; omega
          have HCS : Hid (∀ j u, (cz r)[j]? = some u → wr.cell? ((⟨b2, o2, none⟩ : Addr).add j) = some u) := Lib.hid (fun j u hj => by
            have := hcs j u hj
            rw [add_off4] at this ⊢
            exact (hB.cell (p := ⟨b2, o2 + j, none⟩) hb2).trans this)
          have hczl := Lib.hid (cz_len r)
          have hone := Lib.hid (cz_one4 r)
          clear hcs hrk hfl
          have hown := HO.out
          have hsz := hB.size
          generalize hL : (M.take k).flatten = L at *
          clear hL
          go_wp2_with (at_builtin; refine wpList_append_own _ rfl (.tmp 31) (.tmp 32) 40 rfl w.heap.size 38 i0 (.agg #[.int .i64 0, .int .i64 0]) 2 16 Try.underlying40 hi hz0 hz1 hz2 rfl (by decide) (.slice (some ⟨R, 0, none⟩) L.length c3) L.length _ rfl hown ⟨b2, o2, none⟩ r.length c2 (cz r) rfl hczl.out HCS.out hone.out (by unfold maxLen; omega) (by omega) hsz ?_)
          intro v' w6 hown' hgrow _
          obtain ⟨g', cap', rfl⟩ : ∃ g cap, v' = .slice (some ⟨g, 0, none⟩) (L.length + r.length) cap := by
            rcases hown'.2 with ⟨_, h0⟩ | ⟨g, cap, _, h, _⟩
            · omega
            · exact ⟨g, cap, h⟩
          have hB6 : Below w.heap.size w w6 := Below.grown hB hgrow hsz (fun q hq => (hown.lt q hq).1)
          rw [← cz_append] at hown'
          have HO6 := Lib.hid hown'
          clear hown hown' hgrow
          go_wp2_with (fail)
          go_roundw
          case rel =>
            refine ⟨k + 1, g', cap', by go_num, by omega, by rw [hlen.out], ?_, hB6⟩
            rw [hlen.out, hft.out]
            exact HO6
          case measure => simp [intOf]; omega
        · obtain rfl : k = M.length := by omega
          have htk : M.take M.length = M := List.take_length
          rw [htk, HN.out] at HO
          rw [htk, HN.out]
          clear htk
          go_wp2_with (fail)
          go_ret
          exact ⟨_, _, rfl, HO.out, hB⟩
end Go.Proofs.Ytmcdkbnpcmiojaa

namespace Go.Proofs.Ytmcdkbnpcmiojaa
open Go.ChangeShapes Go.WideShapes Go.ChangeAt Go.RowKit
set_option linter.unusedVariables false
set_option linter.unusedSimpArgs false
set_option maxRecDepth 100000

attribute [local irreducible] Calls
theorem OwnM.push {B : Nat} {w w' : World} {v v' : Value} {us : List Value} {M : List (List (Int × Int))} {r : List (Int × Int)} {R c : Nat} (h : OwnM B w v us M) (hrow : w.ownsRow B 38 2 (.slice (some ⟨R, 0, none⟩) r.length c) r.length (cz r))
    (hf : ∀ (i R' n c' : Nat), us[i]? = some (Value.slice (some ⟨R', 0, none⟩) n c') → R' ≠ R) (hown : w'.ownsRow B 40 1 v' (M.length + 1) (us ++ [.slice (some ⟨R, 0, none⟩) r.length c])) (hg : w.grownBy w' v.ownBlock) : OwnM B w' v' (us ++ [.slice (some ⟨R, 0, none⟩) r.length c]) (M ++ [r]) := by
  have hl : us.length = M.length := by have := h.out.1; omega
  have keep : ∀ (r' : List (Int × Int)) (R' c' : Nat), w.ownsRow B 38 2 (.slice (some ⟨R', 0, none⟩) r'.length c') r'.length (cz r') → w'.ownsRow B 38 2 (.slice (some ⟨R', 0, none⟩) r'.length c') r'.length (cz r') := fun r' R' c' k => by
    refine k.kept hg (.inr ?_)
    rcases h.out.2 with ⟨e, _⟩ | ⟨O, c'', cur, e, _⟩
    · rw [e]
      exact nofun
    · have ho := h.out
      rw [e] at ho ⊢
      intro q
      simp only [Value.ownBlock, Option.some.injEq] at q
      subst q
      exact absurd (own_type ho k) (by decide)
  refine ⟨by rw [List.length_append, List.length_singleton]; exact hown, fun i s hs => ?_, fun i j R' n c' n' c'' h1 h2 => ?_⟩
  · by_cases hi : i < M.length
    · rw [List.getElem?_append_left hi] at hs
      obtain ⟨R', c', g1, g2⟩ := h.row i s hs
      exact ⟨R', c', by rw [List.getElem?_append_left (by omega)]; exact g1, keep s R' c' g2⟩
    · have hi2 : i = M.length := by
        have := (List.getElem?_eq_some_iff.1 hs).1
        rw [List.length_append, List.length_singleton] at this
        omega
      subst hi2
      rw [List.getElem?_append_right (Nat.le_refl _), Nat.sub_self] at hs
      simp only [List.getElem?_cons_zero, Option.some.injEq] at hs
      subst hs
      exact ⟨R, c, by rw [List.getElem?_append_right (by omega), show M.length - us.length = 0 by omega]; rfl, keep r R c hrow⟩
  · have a1 : i < us.length + 1 := by have := (List.getElem?_eq_some_iff.1 h1).1; simpa using this
    have a2 : j < us.length + 1 := by have := (List.getElem?_eq_some_iff.1 h2).1; simpa using this
    by_cases hi : i < us.length
    · rw [List.getElem?_append_left hi] at h1
      by_cases hj : j < us.length
      · rw [List.getElem?_append_left hj] at h2
        exact h.far i j R' n c' n' c'' h1 h2
      · obtain rfl : j = us.length := by omega
        rw [List.getElem?_append_right (Nat.le_refl _), Nat.sub_self] at h2
        simp only [List.getElem?_cons_zero, Option.some.injEq, Value.slice.injEq, Addr.mk.injEq, and_true] at h2
        exact absurd h2.1.symm (hf i R' n c' h1)
    · obtain rfl : i = us.length := by omega
      rw [List.getElem?_append_right (Nat.le_refl _), Nat.sub_self] at h1
      simp only [List.getElem?_cons_zero, Option.some.injEq, Value.slice.injEq, Addr.mk.injEq, and_true] at h1
      by_cases hj : j < us.length
      · rw [List.getElem?_append_left hj] at h2
        exact absurd h1.1.symm (hf j R' n' c'' h2)
      · omega
theorem cz_zero : ∀ n, cz (List.replicate n ((0 : Int), (0 : Int))) = List.replicate (n * 2) (.int .i64 0)
  | 0 => rfl
  | n + 1 => by
    rw [List.replicate_succ, cz, cz_zero n, show (n + 1) * 2 = n * 2 + 1 + 1 by omega, List.replicate_succ, List.replicate_succ]
theorem made_zero (n : Nat) : (madeCells (Value.cells (.agg #[.int .i64 0, .int .i64 0])) (n * 2)).toList = cz (List.replicate n ((0 : Int), (0 : Int))) := by
  rw [cz_zero]
  refine List.eq_replicate_iff.2 ⟨by rw [Array.length_toList, size_madeCells], fun u hu => ?_⟩
  simp only [madeCells, Value.cells, Array.toList_map, List.mem_map] at hu
  obtain ⟨a, _, rfl⟩ := hu
  rcases Nat.mod_two_eq_zero_or_one a with h | h <;> simp [h]
theorem row_id (n k : Nat) : (List.replicate n ((0 : Int), (0 : Int))).set k (65536, 65536) = rowOf idF n k := by
  apply List.ext_getElem?
  intro j
  unfold rowOf
  rw [List.getElem?_map]
  by_cases hj : j < n
  · rw [List.getElem?_range hj, Option.map_some]
    by_cases e : j = k
    · subst e
      rw [List.getElem?_set_self (by simpa using hj)]
      simp [idF]
    · rw [List.getElem?_set_ne (fun q => e q.symm), List.getElem?_replicate, if_pos hj]
      have e2 : ¬ k = j := fun q => e q.symm
      simp [idF, e2, e]
  · rw [List.getElem?_eq_none (by simpa using Nat.le_of_not_lt hj), List.getElem?_eq_none (by simpa using Nat.le_of_not_lt hj)]
    rfl
theorem one_sl (p : Option Addr) (n c : Nat) : ∀ u ∈ [Value.slice p n c], u.oneCell' = true := by
  intro u hu
  simp at hu
  subst hu
  rfl
theorem mat_take {F : Nat → Nat → Int × Int} {n k : Nat} (h : k < n) : (matOf F n).take (k + 1) = (matOf F n).take k ++ [rowOf F n k] := by
  have : (matOf F n)[k]? = some (rowOf F n k) := by
    unfold matOf
    rw [List.getElem?_map, List.getElem?_range h]
    rfl
  rw [List.take_add_one, this]
  rfl
end Go.Proofs.Ytmcdkbnpcmiojaa

namespace Go.Proofs.Ytmcdkbnpcmiojaa
open Go.ChangeShapes Go.WideShapes Go.ChangeAt Go.RowKit
set_option linter.unusedVariables false
set_option linter.unusedSimpArgs false
set_option maxRecDepth 100000

attribute [local irreducible] Calls
def augF (M : List (List (Int × Int))) (n i : Nat) : List (Int × Int) := (M[i]?.getD []) ++ rowOf idF n i
def augM (M : List (List (Int × Int))) (n : Nat) : List (List (Int × Int)) := (List.range n).map (augF M n)
theorem mx_two {W : World} {u1 u2 : Value} {r1 r2 : List (Int × Int)} (h1 : Bx W u1 r1) (h2 : Bx W u2 r2) : Mx (W.alloc (.cells #[u1, u2] 40)) (.slice (some ⟨W.heap.size, 0, none⟩) 2 2) [r1, r2] := by
  have hb : Below W.heap.size W (W.alloc (.cells #[u1, u2] 40)) := (Below.refl _ _).alloc (Nat.le_refl _) _
  have hrow : (W.alloc (.cells #[u1, u2] 40)).ownsRow W.heap.size 40 1 (.slice (some ⟨W.heap.size, 0, none⟩) 2 2) 2 [u1, u2] := World.ownsRow_lit W #[u1, u2] 2 (Nat.le_refl _) (by decide) rfl
  refine Lx.own (l := [r1, r2]) hrow (by simp [maxLen]) fun k u x hu hx => ?_
  match k, hu, hx with
  | 0, hu, hx =>
    simp at hu hx
    subst hu
    subst hx
    exact h1.grow hb
  | 1, hu, hx =>
    simp at hu hx
    subst hu
    subst hx
    exact h2.grow hb
  | k + 2, hu, hx => simp at hu
/-- The rows behind i of the rows of the identity have been made longer. -/
structure AugP (B O n k : Nat) (w : World) (us : List Value) (M : List (List (Int × Int))) : Prop where
  out : w.ownsRow B 40 1 (.slice (some ⟨O, 0, none⟩) n n) n us
  sl : ∀ u ∈ us, IsSl u
  row : ∀ i, i < k → ∃ R c, us[i]? = some (Value.slice (some ⟨R, 0, none⟩) (augF M n i).length c) ∧ w.ownsRow B 38 2 (.slice (some ⟨R, 0, none⟩) (augF M n i).length c) (augF M n i).length (cz (augF M n i))
  far : ∀ (i j R m c m' c' : Nat), i < k → j < k → us[i]? = some (Value.slice (some ⟨R, 0, none⟩) m c) → us[j]? = some (Value.slice (some ⟨R, 0, none⟩) m' c') → i = j
  rest : ∀ (j : Nat) (u : Value), k ≤ j → us[j]? = some u → Bx w u (rowOf idF n j)
theorem AugP.kept {B O n k : Nat} {w w' : World} {us : List Value} {M : List (List (Int × Int))} (h : AugP B O n k w us M) (hb : Below w.heap.size w w') : AugP B O n k w' us M :=
  ⟨h.out.kept (grown_below hb) (.inr (by simp [Value.ownBlock])), h.sl,
   fun i hi => by
    obtain ⟨R, c, h1, h2⟩ := h.row i hi
    exact ⟨R, c, h1, h2.kept (grown_below hb) (.inr (by simp [Value.ownBlock]))⟩,
   h.far, fun j u hj hu => (h.rest j u hj hu).grow hb⟩
/-- The row k is stored: a block that is younger than all others. -/
theorem AugP.push {B O n k R c : Nat} {w w1 : World} {us : List Value} {M : List (List (Int × Int))} (h : AugP B O n k w us M) (hk : k < n) (hb : Below w.heap.size w w1) (hBw : B ≤ w.heap.size)
    (hrow : w1.ownsRow w.heap.size 38 2 (.slice (some ⟨R, 0, none⟩) (augF M n k).length c) (augF M n k).length (cz (augF M n k))) :
    AugP B O n (k + 1) (w1.setCell ⟨O, k, none⟩ (.slice (some ⟨R, 0, none⟩) (augF M n k).length c)) (us.set k (.slice (some ⟨R, 0, none⟩) (augF M n k).length c)) M := by
  have h1 := h.kept hb
  have hRw := (hrow.lt R rfl)
  have hO := (h.out.lt O rfl)
  have s1 := h1.out.stored k (.slice (some ⟨R, 0, none⟩) (augF M n k).length c)
  have hul : us.length = n := by have := h.out.1; omega
  have hSB := row_sl h1.out h.sl
  have hrow' : w1.ownsRow B 38 2 (.slice (some ⟨R, 0, none⟩) (augF M n k).length c) (augF M n k).length (cz (augF M n k)) := by
    rcases hrow.2 with ⟨e, e2⟩ | ⟨g, cap, cur, e, hg, r⟩
    · exact ⟨hrow.1, .inl ⟨e, e2⟩⟩
    · exact ⟨hrow.1, .inr ⟨g, cap, cur, e, Nat.le_trans hBw hg, r⟩⟩
  refine ⟨s1.1, fun u hu => ?_, fun i hi => ?_, fun i j R' m c1 m' c' hi hj g1 g2 => ?_, fun j u hj hu => ?_⟩
  · rcases List.mem_or_eq_of_mem_set hu with e | e
    · exact h.sl u e
    · exact ⟨_, _, _, e⟩
  · by_cases e : i = k
    · subst e
      exact ⟨R, c, by rw [List.getElem?_set_self (by omega)], hrow'.kept s1.2 (.inr (by simp [Value.ownBlock]; omega))⟩
    · obtain ⟨R2, c2, q1, q2⟩ := h1.row i (by omega)
      have hne : R2 ≠ O := by
        rintro rfl
        have := own_type q2 h1.out
        exact absurd this (by decide)
      exact ⟨R2, c2, by rw [List.getElem?_set_ne (fun q => e q.symm)]; exact q1, q2.kept s1.2 (.inr (by simpa [Value.ownBlock] using hne))⟩
  · have old : ∀ i, i < k → ∀ R' m c1, us[i]? = some (Value.slice (some ⟨R', 0, none⟩) m c1) → R' < w.heap.size := fun i hi R' m c1 g => by
      obtain ⟨R2, c2, q1, q2⟩ := h.row i hi
      rw [q1] at g
      have e := Option.some.inj g
      simp only [Value.slice.injEq, Option.some.injEq, Addr.mk.injEq, and_true] at e
      have := (q2.lt R2 rfl).2
      omega
    by_cases ei : i = k
    · by_cases ej : j = k
      · omega
      · exfalso
        subst ei
        rw [List.getElem?_set_self (by omega)] at g1
        rw [List.getElem?_set_ne (fun q => ej q.symm)] at g2
        have e := Option.some.inj g1
        simp only [Value.slice.injEq, Option.some.injEq, Addr.mk.injEq, and_true] at e
        have := old j (by omega) _ _ _ g2
        omega
    · rw [List.getElem?_set_ne (fun q => ei q.symm)] at g1
      by_cases ej : j = k
      · exfalso
        subst ej
        rw [List.getElem?_set_self (by omega)] at g2
        have e := Option.some.inj g2
        simp only [Value.slice.injEq, Option.some.injEq, Addr.mk.injEq, and_true] at e
        have := old i (by omega) _ _ _ g1
        omega
      · rw [List.getElem?_set_ne (fun q => ej q.symm)] at g2
        exact h.far i j R' m c1 m' c' (by omega) (by omega) g1 g2
  · rw [List.getElem?_set_ne (by omega)] at hu
    exact offs_bx _ _ _ _ _ _ hSB (h1.rest j u (by omega) hu)
theorem aug_len (M : List (List (Int × Int))) (n i : Nat) (r : List (Int × Int)) (h : M[i]? = some r) : (augF M n i).length = r.length + n := by
  simp [augF, h, rowOf]
set_option maxHeartbeats 8000000 in
theorem aug_ok (v : Value) (M : List (List (Int × Int))) (n : Nat) (w : World) (hv : Mx w v M) (hM : M.length = n) (hr : ∀ r ∈ M, r.length = n) (h1 : 1 ≤ n) (h6 : n ≤ 6) :
    Calls Try.prog 40 #[v] w fun e w' => ∃ O us, e = .returned (.slice (some ⟨O, 0, none⟩) n n) ∧ OwnM w.heap.size w' (.slice (some ⟨O, 0, none⟩) n n) us (augM M n) ∧ Below w.heap.size w w' := by
  obtain ⟨p, c, rfl⟩ := hv.shape hM
  have HV := Lib.hid hv
  have HR := Lib.hid hr
  have HM := Lib.hid hM
  clear hv hr hM
  go_enter Try.func40, Try.ntmps40
  go_wp2_with (fail)
  refine (mx_ident_o n _ h1 h6).mono ?_
  rintro e w1 ⟨O, us0, rfl, hown0, hsl0, hbx0, hB1⟩
  have hP0 : Hid (AugP w.heap.size O n 0 w1 us0 M) := Lib.hid ⟨hown0, hsl0, fun i hi => by omega, fun i j R m c m' c' hi => by omega, fun j u _ hu => hbx0 j u hu⟩
  clear hown0 hsl0 hbx0
  go_wp2_with (fail)
  go_loopw [11] (fun i wr => ∃ (k : Nat) (us : List Value), i = .int .i64 k ∧ k ≤ n ∧ Hid (AugP w.heap.size O n k wr us M) ∧ Below w.heap.size w wr) (fun i _ => n - (intOf i).toNat)
  case atStart => exact ⟨0, us0, rfl, Nat.zero_le _, hP0, hB1⟩
  case round =>
    obtain ⟨k, us, rfl, hk, HP, hB⟩ := hrel
    by_cases hlt : k < n
    · have i1 : (k : Int) < n := by omega
      have hul : us.length = n := by have := HP.out.out.1; omega
      obtain ⟨u2, hu2⟩ : ∃ u, us[k]? = some u := ⟨_, List.getElem?_eq_getElem (by omega)⟩
      have hbx2 := HP.out.rest k u2 (Nat.le_refl _) hu2
      obtain ⟨p2, n2, c2, rfl⟩ := bx_sl hbx2
      have hcO := HP.out.out.cellAt k (by omega)
      rw [hu2] at hcO
      obtain ⟨r, hrk⟩ : ∃ r, M[k]? = some r := ⟨_, List.getElem?_eq_getElem (by rw [HM.out]; exact hlt)⟩
      have hrn := HR.out r (List.mem_of_getElem? hrk)
      obtain ⟨b, o, u1, hp, hb, rd⟩ := (HV.out.grow grows_bx hB).rd grows_bx hrk
      have hrd := rd ⟨wr, Below.refl _ _⟩
      have hcM := hrd.2.1
      have hbx1 := hrd.2.2
      dsimp only at hcM hbx1
      subst hp
      obtain ⟨p1, n1, c1, rfl⟩ := bx_sl hbx1
      have hfl : [r, rowOf idF n k].flatten = augF M n k := by simp [augF, hrk]
      have hfll : (augF M n k).length = n + n := by rw [aug_len M n k r hrk, hrn]
      have hmx := mx_two hbx1 hbx2
      have hpos : ∀ x ∈ [r, rowOf idF n k], 0 < x.length := by
        intro x hx
        simp at hx
        rcases hx with rfl | rfl
        · omega
        · simp [rowOf]; omega
      have hcc := concat_ok _ _ _ hmx (by rw [hfl, hfll]; omega) (by rw [hfl, hfll]; omega) hpos
      rw [hfl] at hcc
      have HC := Lib.hid hcc
      have HFL := Lib.hid hfll
      have hBa : Below wr.heap.size wr (wr.alloc (.cells #[Value.slice p1 n1 c1, Value.slice p2 n2 c2] 40)) := (Below.refl _ _).alloc (Nat.le_refl _) _
      clear hcc hpos hfl hfll hmx hbx1 hbx2 hrd rd hrk hu2 hul
      go_wp2_with (fail)
      refine HC.out.mono ?_
      rintro e w5 ⟨R, c5, rfl, hrow5, hB5⟩
      have hB5' : Below wr.heap.size wr w5 := hBa.trans (hB5.mono hBa.size)
      have hrow5' : w5.ownsRow wr.heap.size 38 2 (.slice (some ⟨R, 0, none⟩) (augF M n k).length c5) (augF M n k).length (cz (augF M n k)) := by
        rcases hrow5.2 with ⟨e, e2⟩ | ⟨g, cap, cur, e, hg, r⟩
        · exact ⟨hrow5.1, .inl ⟨e, e2⟩⟩
        · exact ⟨hrow5.1, .inr ⟨g, cap, cur, e, Nat.le_trans hBa.size hg, r⟩⟩
      have hP5 := HP.out.push hlt hB5' hB.size hrow5'
      have hO5 := (HP.out.kept hB5').out
      have q0 := hO5.cellAt k (by omega)
      have z0 := hO5.frozenAt k
      obtain ⟨uo, huo⟩ : ∃ u, us[k]? = some u := ⟨_, List.getElem?_eq_getElem (by have := HP.out.out.1; omega)⟩
      rw [huo] at q0
      have HP5 := Lib.hid hP5
      have hOl := (HP.out.out.lt O rfl).1
      have hB6 : Below w.heap.size w (w5.setCell ⟨O, k, none⟩ (.slice (some ⟨R, 0, none⟩) (augF M n k).length c5)) := (hB.trans (hB5'.mono hB.size)).setCell (p := ⟨O, k, none⟩) hOl _
      clear hP5 hO5 hrow5 hrow5' huo hcO hcM
      go_wp2_with (fail)
      go_roundw
      case rel => exact ⟨k + 1, _, by go_num, by omega, HP5, hB6⟩
      case measure => simp [intOf]; omega
    · obtain rfl : k = n := by omega
      go_wp2_with (fail)
      go_ret
      have P := HP.out
      have hl : (augM M k).length = k := by simp [augM]
      refine ⟨O, us, rfl, ⟨by rw [hl]; exact P.out, fun i r hr => ?_, fun i j R m c m' c' g1 g2 => ?_⟩, hB⟩
      · have hik : i < k := by have := (List.getElem?_eq_some_iff.1 hr).1; omega
        unfold augM at hr
        rw [List.getElem?_map, List.getElem?_range hik] at hr
        simp only [Option.map_some, Option.some.injEq] at hr
        rw [← hr]
        exact P.row i hik
      · have hul : us.length = k := by have := P.out.1; omega
        exact P.far i j R m c m' c' (by have := (List.getElem?_eq_some_iff.1 g1).1; omega) (by have := (List.getElem?_eq_some_iff.1 g2).1; omega) g1 g2
end Go.Proofs.Ytmcdkbnpcmiojaa

namespace Go.Proofs.Ytmcdkbnpcmiojaa
open Go.ChangeShapes Go.WideShapes Go.ChangeAt Go.RowKit
set_option linter.unusedVariables false
set_option linter.unusedSimpArgs false
set_option maxRecDepth 100000

attribute [local irreducible] Calls
attribute [local go_sem ↓] run_max_two run_min_two run_max_three
def migI (p : Int × Int) : Int := max p.1 (max (-p.2) 0)
theorem mig_ok (a b : Int) (w : World) (h : VB (a, b)) :
    Calls Try.prog 65 #[.agg #[.int .i64 a, .int .i64 b]] w fun e w' => e = .returned (.int .i64 (migI (a, b))) ∧ Below w.heap.size w w' := by
  have hb := VI.bd4 h
  obtain ⟨h1, h2, h3, h4⟩ := hb
  dsimp only at h1 h2 h3 h4
  clear h
  go_enter Try.func65, Try.ntmps65
  go_wp2_with (fail)
  go_ret
  refine ⟨rfl, ?_⟩
  go_grown
def elI (M : List (List (Int × Int))) (i k : Nat) : Int × Int := ((M[i]?).bind fun r => r[k]?).getD (0, 0)
/-- The pivot's row behind s further rows. -/
def bst (M : List (List (Int × Int))) (k : Nat) : Nat → Nat
  | 0 => k
  | s + 1 => if migI (elI M (bst M k s) k) < migI (elI M (k + 1 + s) k) then k + 1 + s else bst M k s
def pivV (M : List (List (Int × Int))) (k : Nat) : Nat := bst M k (M.length - (k + 1))
theorem bst_le (M : List (List (Int × Int))) (k : Nat) : ∀ s, k ≤ bst M k s ∧ bst M k s ≤ k + s
  | 0 => ⟨Nat.le_refl _, Nat.le_refl _⟩
  | s + 1 => by
    have := bst_le M k s
    unfold bst
    split <;> omega
set_option maxHeartbeats 8000000 in
theorem pivot_ok (v : Value) (M : List (List (Int × Int))) (k : Nat) (w : World) (hv : Mx w v M) (h6 : M.length ≤ 6) (hk : k < M.length) (hr : ∀ r ∈ M, k < r.length ∧ ∀ p ∈ r, VB p) :
    Calls Try.prog 41 #[v, .int .i64 (k : Int)] w fun e w' => e = .returned (.int .i64 (pivV M k : Int)) ∧ Below w.heap.size w w' := by
  obtain ⟨p, c, rfl⟩ := hv.cut
  have HV := Lib.hid hv
  have HR := Lib.hid hr
  clear hv hr
  have el : Hid (∀ i, i < M.length → ∃ (b o b2 o2 n2 c2 : Nat) (x y : Int), p = some ⟨b, o, none⟩ ∧ elI M i k = (x, y) ∧ VB (x, y) ∧ k < n2 ∧ ∀ g : Grown w, g.w.cell? ⟨b, o + i, none⟩ = some (.slice (some ⟨b2, o2, none⟩) n2 c2) ∧ g.w.cell? ⟨b2, o2 + k * 2, none⟩ = some (.int .i64 x) ∧ g.w.cell? ⟨b2, o2 + k * 2 + 1, none⟩ = some (.int .i64 y)) := Lib.hid (fun i hi => by
    obtain ⟨r, hr⟩ : ∃ r, M[i]? = some r := ⟨_, List.getElem?_eq_getElem hi⟩
    obtain ⟨hkr, hvb⟩ := HR.out r (List.mem_of_getElem? hr)
    obtain ⟨b, o, ur, hp, hb, rd⟩ := HV.out.rd grows_bx hr
    have hbr := (rd ⟨w, Below.refl _ _⟩).2.2
    dsimp only at hbr
    obtain ⟨pr, cr, rfl⟩ := hbr.cut
    obtain ⟨x, y, hx⟩ : ∃ x y, r[k]? = some (x, y) := ⟨r[k].1, r[k].2, List.getElem?_eq_getElem hkr⟩
    obtain ⟨b2, o2, rfl, hb2, rd2⟩ := hbr.rd2 hx
    exact ⟨b, o, b2, o2, r.length, cr, x, y, hp, by simp [elI, hr, hx], hvb _ (List.mem_of_getElem? hx), hkr, fun g => ⟨(rd g).2.1, (rd2 g).2.1, (rd2 g).2.2⟩⟩)
  go_enter Try.func41, Try.ntmps41
  go_wp2_with (fail)
  go_loopw [5, 6] (fun u i wr => ∃ s : Nat, u = .int .i64 (bst M k s : Int) ∧ i = .int .i64 ((k + 1 + s : Nat) : Int) ∧ k + 1 + s ≤ M.length ∧ ∃ g : Grown w, wr = g.w) (fun _ i _ => M.length - (intOf i).toNat)
  case atStart => exact ⟨0, rfl, by simp, by omega, ⟨w, Below.refl _ _⟩, rfl⟩
  case round =>
    obtain ⟨s, rfl, rfl, hs, g0, rfl⟩ := hrel
    by_cases hlt : k + 1 + s < M.length
    · have hbl := bst_le M k s
      obtain ⟨b, o, b2, o2, n2, c2, x, y, hp, hxy, hvb, hkn, rd⟩ := el.out (k + 1 + s) hlt
      obtain ⟨b', o', b3, o3, n3, c3, x', y', hp', hxy', hvb', hkn', rd'⟩ := el.out (bst M k s) (by omega)
      subst hp
      have e := Option.some.inj hp'
      simp only [Addr.mk.injEq, and_true] at e
      obtain ⟨rfl, rfl⟩ := e
      have hn : bst M k (s + 1) = if migI (x', y') < migI (x, y) then k + 1 + s else bst M k s := by rw [bst, hxy, hxy']
      have HN := Lib.hid hn
      have HM1 := Lib.hid (fun w => mig_ok x y w hvb)
      have HM2 := Lib.hid (fun w => mig_ok x' y' w hvb')
      have i1 : ((k + 1 + s : Nat) : Int) < M.length := by omega
      have i2 : ((bst M k s : Nat) : Int) < M.length := by omega
      have i3 : (k : Int) < n2 := by omega
      have i4 : (k : Int) < n3 := by omega
      have fA := fun g => (rd g).1
      have fB := fun g => (rd g).2.1
      have fC := fun g => (rd g).2.2
      have gA := fun g => (rd' g).1
      have gB := fun g => (rd' g).2.1
      have gC := fun g => (rd' g).2.2
      clear rd rd' hn hxy hxy' hvb hvb' hp'
      generalize migI (x, y) = m1 at *
      generalize migI (x', y') = m2 at *
      generalize hq : k + 1 + s = q at *
      generalize bst M k s = r at *
      by_cases hd : m2 < m1
      · go_wp2_with (fail)
        refine region_quiet' g0 (by kernel_rfl) (by kernel_rfl) ?_
        repeat (go_big_quiet_step (first | exact qc (HM1.out _) | exact qc (HM2.out _)))
        refine wpQuiet_nil ?_
        rintro _ ⟨g1, rfl⟩
        go_wp2_with (fail)
        go_roundw
        case rel => exact ⟨s + 1, by rw [HN.out, if_pos hd], by rw [← hq]; go_num, by omega, g1, rfl⟩
        case measure => simp [intOf]; omega
      · have hd' : m1 ≤ m2 := by omega
        go_wp2_with (fail)
        refine region_quiet' g0 (by kernel_rfl) (by kernel_rfl) ?_
        repeat (go_big_quiet_step (first | exact qc (HM1.out _) | exact qc (HM2.out _)))
        refine wpQuiet_nil ?_
        rintro _ ⟨g1, rfl⟩
        go_wp2_with (fail)
        go_roundw
        case rel => exact ⟨s + 1, by rw [HN.out, if_neg (by omega)], by rw [← hq]; go_num, by omega, g1, rfl⟩
        case measure => simp [intOf]; omega
    · have hpv : bst M k s = pivV M k := by unfold pivV; rw [show M.length - (k + 1) = s by omega]
      have i1 : (M.length : Int) ≤ ((k + 1 + s : Nat) : Int) := by omega
      rw [hpv]
      clear hpv
      go_wp2_with (fail)
      go_ret
      exact ⟨rfl, g0.h⟩
end Go.Proofs.Ytmcdkbnpcmiojaa

namespace Go.Proofs.Ytmcdkbnpcmiojaa
open Go.ChangeShapes Go.WideShapes Go.ChangeAt Go.RowKit
set_option linter.unusedVariables false
set_option linter.unusedSimpArgs false
set_option maxRecDepth 100000

attribute [local irreducible] Calls
def divJ (p q : Int × Int) : Int × Int := (divLo p.1 p.2 q.1 q.2, divHi p.1 p.2 q.1 q.2)
def nrmR (M : List (List (Int × Int))) (k : Nat) : List (Int × Int) := (M[k]?.getD []).map fun x => divJ x (elI M k k)
def elimR (nr : List (Int × Int)) (f : Int × Int) (r : List (Int × Int)) : List (Int × Int) := (r.zip nr).map fun z => subI z.1 (mulI (f, z.2))
def elimF (M : List (List (Int × Int))) (k i : Nat) : List (Int × Int) := if i = k then nrmR M k else elimR (nrmR M k) (elI M i k) (M[i]?.getD [])
def elimM (M : List (List (Int × Int))) (k : Nat) : List (List (Int × Int)) := (List.range M.length).map (elimF M k)
theorem div_vb {p q : Int × Int} (h : VB q) : VB (divJ p q) := div_vi (VI.bd h).2.2.2.2
theorem iv_to {W W' : World} {b : Nat} {p : Int × Int} (h : IvBox W b p) (hB : Below W.heap.size W W') : IvBox W' b p := (hB.block b h.lt).trans h
theorem td_set {α : Type} {l m : List α} {j : Nat} {x : α} (hx : l[j]? = some x) (hlm : l.length = m.length) : (l.take j ++ m.drop j).set j x = l.take (j + 1) ++ m.drop (j + 1) := by
  have hj : j < l.length := (List.getElem?_eq_some_iff.1 hx).1
  have hl : (l.take j).length = j := by rw [List.length_take]; omega
  rw [List.set_append_right _ _ (by omega), hl, Nat.sub_self, List.take_add_one, hx]
  rw [List.drop_eq_getElem_cons (by omega : j < m.length), List.set_cons_zero]
  simp
theorem td_get {α : Type} {l m : List α} {j i : Nat} {x : α} (hx : l[i]? = some x) (hm : m[i]? = some x) : (l.take j ++ m.drop j)[i]? = some x := by
  have hi : i < l.length := (List.getElem?_eq_some_iff.1 hx).1
  by_cases h : i < j
  · rw [List.getElem?_append_left (by rw [List.length_take]; omega), List.getElem?_take, if_pos h, hx]
  · rw [List.getElem?_append_right (by rw [List.length_take]; omega), List.length_take, List.getElem?_drop]
    rw [show j + (i - min j l.length) = i by omega, hm]
theorem td_same {α : Type} {l m : List α} {j : Nat} {x : α} (hx : l[j]? = some x) (hm : m[j]? = some x) (hlm : l.length = m.length) : l.take j ++ m.drop j = l.take (j + 1) ++ m.drop (j + 1) := by
  rw [← td_set hx hlm]
  have h := td_get (j := j) hx hm
  apply List.ext_getElem?
  intro i
  by_cases e : i = j
  · subst e
    rw [List.getElem?_set_self (List.getElem?_eq_some_iff.1 h).1, h]
  · rw [List.getElem?_set_ne (fun q => e q.symm)]
theorem td_at {α : Type} {l m : List α} {j : Nat} (hlm : l.length = m.length) (hj : j ≤ l.length) : (l.take j ++ m.drop j)[j]? = m[j]? := by
  rw [List.getElem?_append_right (by rw [List.length_take]; omega), List.length_take, List.getElem?_drop, show j + (j - min j l.length) = j by omega]
theorem td_len {α : Type} {l m : List α} {j : Nat} (hlm : l.length = m.length) (hj : j ≤ l.length) : (l.take j ++ m.drop j).length = m.length := by
  rw [List.length_append, List.length_take, List.length_drop]
  omega
theorem own_row {B : Nat} {w : World} {O n : Nat} {us : List Value} {M : List (List (Int × Int))} (h : OwnM B w (.slice (some ⟨O, 0, none⟩) n n) us M) {i : Nat} {r : List (Int × Int)} (hr : M[i]? = some r) : ∃ R c, us[i]? = some (Value.slice (some ⟨R, 0, none⟩) r.length c) ∧ B ≤ O ∧ O < w.heap.size ∧ B ≤ R ∧ R < w.heap.size ∧ O ≠ R ∧
    w.cell? ⟨O, i, none⟩ = some (Value.slice (some ⟨R, 0, none⟩) r.length c) ∧ w.ownsRow B 38 2 (.slice (some ⟨R, 0, none⟩) r.length c) r.length (cz r) := by
  obtain ⟨O', R, c', c, hv, hu, h1, h2, h3, h4, h5, h6, h7⟩ := h.at hr
  simp only [Value.slice.injEq, Option.some.injEq, Addr.mk.injEq, and_true] at hv
  obtain ⟨e1, e2⟩ := hv
  rw [← e1] at h1 h2 h5 h6
  exact ⟨R, c, hu, h1, h2, h3, h4, h5, h6, h7⟩
theorem own_slot {us : List Value} {i R R' a a' c c' : Nat} (h : us[i]? = some (Value.slice (some ⟨R, 0, none⟩) a c)) (k : us[i]? = some (Value.slice (some ⟨R', 0, none⟩) a' c')) : R' = R ∧ a' = a ∧ c' = c := by
  rw [h] at k
  have e := Option.some.inj k
  simp only [Value.slice.injEq, Option.some.injEq, Addr.mk.injEq, and_true] at e
  exact ⟨e.1.symm, e.2.1.symm, e.2.2.symm⟩
/-- Phase 1: row k is divided by its pivot. -/
def El1 (w0 : World) (O n : Nat) (us : List Value) (M : List (List (Int × Int))) (k : Nat) (nr r : List (Int × Int)) (P : Nat) (px py : Int) (j : Nat) (wr : World) : Prop :=
  OwnM w0.heap.size wr (.slice (some ⟨O, 0, none⟩) n n) us (M.set k (nr.take j ++ r.drop j)) ∧ IvBox wr P (px, py) ∧ w0.heap.size ≤ P ∧ Below w0.heap.size w0 wr
def El3 (w0 : World) (O n : Nat) (us : List Value) (M : List (List (Int × Int))) (i : Nat) (new s : List (Int × Int)) (F : Nat) (fx fy : Int) (j : Nat) (wr : World) : Prop :=
  OwnM w0.heap.size wr (.slice (some ⟨O, 0, none⟩) n n) us (M.set i (new.take j ++ s.drop j)) ∧ IvBox wr F (fx, fy) ∧ Below w0.heap.size w0 wr
theorem elim_len (M : List (List (Int × Int))) (k : Nat) : (elimM M k).length = M.length := by simp [elimM]
theorem elim_at {M : List (List (Int × Int))} {k i : Nat} (h : i < M.length) : (elimM M k)[i]? = some (elimF M k i) := by
  unfold elimM
  rw [List.getElem?_map, List.getElem?_range h, Option.map_some]
def El2 (w0 : World) (O n : Nat) (us : List Value) (M : List (List (Int × Int))) (wr : World) : Prop :=
  OwnM w0.heap.size wr (.slice (some ⟨O, 0, none⟩) n n) us M ∧ Below w0.heap.size w0 wr
def ElEnd (w0 : World) (O n : Nat) (us : List Value) (M : List (List (Int × Int))) (e : Ending) (w' : World) : Prop :=
  e = .returned (.tuple #[]) ∧ OwnM w0.heap.size w' (.slice (some ⟨O, 0, none⟩) n n) us M ∧ Below w0.heap.size w0 w'
set_option maxHeartbeats 16000000 in
theorem elim_ok (O n m k : Nat) (us : List Value) (M : List (List (Int × Int))) (w0 w : World) (hO : OwnM w0.heap.size w (.slice (some ⟨O, 0, none⟩) n n) us M) (hM : M.length = n) (hr : ∀ r ∈ M, r.length = m ∧ ∀ p ∈ r, VB p) (hk : k < n) (hkm : k < m) (hn : n ≤ 6) (hm : m ≤ 12) (hB : Below w0.heap.size w0 w) :
    Calls Try.prog 43 #[.slice (some ⟨O, 0, none⟩) n n, .int .i64 (k : Int)] w (ElEnd w0 O n us (elimM M k)) := by
  obtain ⟨r, hrk⟩ : ∃ r, M[k]? = some r := ⟨_, List.getElem?_eq_getElem (by omega)⟩
  obtain ⟨hrm, hrv⟩ := hr r (List.mem_of_getElem? hrk)
  obtain ⟨px, py, hpv⟩ : ∃ px py, r[k]? = some (px, py) := ⟨r[k].1, r[k].2, List.getElem?_eq_getElem (by omega)⟩
  have hpvb := hrv _ (List.mem_of_getElem? hpv)
  have hel : elI M k k = (px, py) := by simp [elI, hrk, hpv]
  obtain ⟨nr, hnr⟩ : ∃ nr, nrmR M k = nr := ⟨_, rfl⟩
  have hnrl : nr.length = m := by rw [← hnr]; simp [nrmR, hrk, hrm]
  have hnr2 : nr = r.map fun x => divJ x (px, py) := by rw [← hnr, nrmR, hrk, hel]; rfl
  have hnrv : ∀ p ∈ nr, VB p := by
    rw [hnr2]
    intro p hp
    rw [List.mem_map] at hp
    obtain ⟨x, _, rfl⟩ := hp
    exact div_vb hpvb
  obtain ⟨R, c, hu, b1, b2, b3, b4, b5, hcell, hrow⟩ := own_row hO hrk
  rw [hrm] at hcell hu
  have q0 := hrow.cellAt (k * 2) (by omega)
  have q1 := hrow.cellAt (k * 2 + 1) (by omega)
  rw [(cz_get _ _ _ hpv).1] at q0
  rw [(cz_get _ _ _ hpv).2] at q1
  dsimp only at q0 q1
  have i1 : (k : Int) < n := by omega
  have i2 : (k : Int) < m := by omega
  have hW : ∀ W1, Below w.heap.size w W1 → IvBox W1 w.heap.size (px, py) → El1 w0 O n us M k nr r w.heap.size px py 0 W1 := fun W1 hb hI =>
    ⟨by
      have e : M.set k ([] ++ r) = M := by
        rw [List.nil_append]
        apply List.ext_getElem?
        intro i
        by_cases h : i = k
        · subst h; rw [List.getElem?_set_self (by omega), hrk]
        · rw [List.getElem?_set_ne (fun q => h q.symm)]
      simp only [List.take_zero, List.drop_zero]
      rw [e]
      exact hO.kept hb, hI, hB.size, hB.trans (hb.mono hB.size)⟩
  have HW := Lib.hid hW
  have HU := Lib.hid hu
  have HRK := Lib.hid hrk
  have HRM := Lib.hid hrm
  have HRV := Lib.hid hrv
  have HNRL := Lib.hid hnrl
  have HNR := Lib.hid hnr
  have HNR2 := Lib.hid hnr2
  have HNRV := Lib.hid hnrv
  have HPVB := Lib.hid hpvb
  have HR := Lib.hid hr
  have HM := Lib.hid hM
  have HPV := Lib.hid hpv
  clear hW hu hrk hrm hrv hnrl hnr hnr2 hnrv hpvb hr hM hpv hel hrow hO
  go_enter Try.func43, Try.ntmps43
  go_wp2_with (fail)
  have hb1 : Below w.heap.size w (w.alloc (.cells #[.int .i64 px, .int .i64 py] 38)) := (Below.refl _ w).alloc (Nat.le_refl _) _
  have hE0 := Lib.hid (HW.out _ hb1 (IvBox.new w px py))
  have hRw := b4
  clear hcell q0 q1 HW hb1 hB
  skip
  go_loopw [24] (fun i wr => ∃ j : Nat, i = .int .i64 j ∧ j ≤ m ∧ Hid (El1 w0 O n us M k nr r w.heap.size px py j wr)) (fun i _ => m - (intOf i).toNat)
  case atStart => exact ⟨0, rfl, Nat.zero_le _, hE0⟩
  case round =>
    clear hE0
    obtain ⟨j, rfl, hj, HE⟩ := hrel
    by_cases hjm : j < m
    · have i3 : (j : Int) < m := by omega
      obtain ⟨hO1, hI1, hP0, hB1⟩ := HE.out
      have hset : (M.set k (nr.take j ++ r.drop j))[k]? = some (nr.take j ++ r.drop j) := List.getElem?_set_self (by rw [HM.out]; exact hk)
      have hlen : (nr.take j ++ r.drop j).length = m := by rw [td_len (by rw [HNRL.out, HRM.out]) (by rw [HNRL.out]; exact hj), HRM.out]
      obtain ⟨R', c', hu', b1, b2, b3, b4, b5, hcell, hrow⟩ := own_row hO1 hset
      rw [hlen] at hu' hcell
      obtain ⟨e1, _, e3⟩ := own_slot HU.out hu'
      subst e1 e3
      obtain ⟨x, y, hx⟩ : ∃ x y, r[j]? = some (x, y) := ⟨(r[j]'(by rw [HRM.out]; exact hjm)).1, (r[j]'(by rw [HRM.out]; exact hjm)).2, List.getElem?_eq_getElem _⟩
      have hxv := HRV.out _ (List.mem_of_getElem? hx)
      have hat : (nr.take j ++ r.drop j)[j]? = some (x, y) := by rw [td_at (by rw [HNRL.out, HRM.out]) (by rw [HNRL.out]; exact hj), hx]
      have q0 := hrow.cellAt (j * 2) (by rw [hlen]; omega)
      have q1 := hrow.cellAt (j * 2 + 1) (by rw [hlen]; omega)
      rw [(cz_get _ _ _ hat).1] at q0
      rw [(cz_get _ _ _ hat).2] at q1
      dsimp only at q0 q1
      obtain ⟨p1, p2, hp⟩ : ∃ p1 p2, divJ (x, y) (px, py) = (p1, p2) := ⟨_, _, rfl⟩
      have hnj : nr[j]? = some (p1, p2) := by rw [HNR2.out, List.getElem?_map, hx, Option.map_some, hp]
      have hcd := fun w => iv_div x y px py w hxv HPVB.out
      rw [show divLo x y px py = p1 from congrArg Prod.fst hp, show divHi x y px py = p2 from congrArg Prod.snd hp] at hcd
      have C := Lib.hid hcd
      have HSET := Lib.hid hset
      have HNJ := Lib.hid hnj
      have HLEN := Lib.hid hlen
      have HROW := Lib.hid hrow
      have HO1 := Lib.hid hO1
      have HI1 := Lib.hid hI1
      have HCELL := Lib.hid hcell
      clear hset hx hat hp hnj hcd hlen hrow hO1 hu' hxv hI1 hcell
      go_wp2_with (fail)
      obtain ⟨W2, hW2⟩ : ∃ W2, wr.alloc (.cells #[.int .i64 x, .int .i64 y] 38) = W2 := ⟨_, rfl⟩
      rw [hW2]
      have hb2 : Below wr.heap.size wr W2 := by rw [← hW2]; exact (Below.refl _ wr).alloc (Nat.le_refl _) _
      have hX : IvBox W2 wr.heap.size (x, y) := by rw [← hW2]; exact IvBox.new wr x y
      have hP : IvBox W2 w.heap.size (px, py) := iv_to HI1.out hb2
      have hcell2 := (hb2.cell (p := ⟨O, k, none⟩) b2).trans HCELL.out
      have hO2 : O < W2.heap.size := Nat.lt_of_lt_of_le b2 hb2.size
      clear hW2 q0 q1
      refine region_data 9 38 _ (by kernel_rfl) new_iv (by kernel_rfl) ?_
      refine data_op (.slice (some ⟨O, 0, none⟩) n n) rfl (RQ_pure (fun w => by simp [go_sem])) ?_
      simp only [Act.put, List.setIfInBounds_toArray, List.set_cons_succ, List.set_cons_zero]
      refine data_op (.int .i64 (k : Int)) rfl (RQ_pure (fun w => by simp [go_sem])) ?_
      simp only [Act.put, List.setIfInBounds_toArray, List.set_cons_succ, List.set_cons_zero]
      refine data_op (.pointer (some ⟨O, k, none⟩)) rfl (RQ_pure (fun w => by simp [go_sem, i1])) ?_
      simp only [Act.put, List.setIfInBounds_toArray, List.set_cons_succ, List.set_cons_zero]
      refine data_op (.slice (some ⟨R', 0, none⟩) m c') rfl (RQ_load rfl rfl (load_sl (fun w h => by simp [go_sem, h]) hO2 hcell2)) ?_
      simp only [Act.put, List.setIfInBounds_toArray, List.set_cons_succ, List.set_cons_zero]
      refine data_op (.int .i64 (j : Int)) rfl (RQ_pure (fun w => by simp [go_sem])) ?_
      simp only [Act.put, List.setIfInBounds_toArray, List.set_cons_succ, List.set_cons_zero]
      refine data_op _ rfl (RQ_load rfl rfl (load_iv hX.lt hX.cell0 hX.cell1)) ?_
      simp only [Act.put, List.setIfInBounds_toArray, List.set_cons_succ, List.set_cons_zero]
      refine data_op _ rfl (RQ_load rfl rfl (load_iv hP.lt hP.cell0 hP.cell1)) ?_
      simp only [Act.put, List.setIfInBounds_toArray, List.set_cons_succ, List.set_cons_zero]
      refine data_op _ rfl (RQ_call C.out (fun _ => by simp [go_sem])) ?_
      simp only [Act.put, List.setIfInBounds_toArray, List.set_cons_succ, List.set_cons_zero]
      refine data_op (.pointer (some ⟨R', j * 2, none⟩)) rfl (RQ_pure (fun w => by simp [go_sem, i3])) ?_
      simp only [Act.put, List.setIfInBounds_toArray, List.set_cons_succ, List.set_cons_zero]
      refine data_end ?_
      intro w5 hB5
      simp only [Act.put, List.drop_succ_cons, List.drop_zero, List.take_succ_cons, List.take_zero, alDsts, List.filterMap_cons, List.filterMap_nil, isAl, Bool.false_eq_true, if_false, if_true, finK]
      have hb5 : Below wr.heap.size wr w5 := hb2.trans (hB5.mono hb2.size)
      have hrow5 := HROW.out.kept (grown_below hb5) (.inr (by simp [Value.ownBlock]))
      have q0 := hrow5.cellAt (j * 2) (by rw [HLEN.out]; omega)
      have q1 := hrow5.cellAt (j * 2 + 1) (by rw [HLEN.out]; omega)
      obtain ⟨y0, hy0⟩ : ∃ y, (cz (nr.take j ++ r.drop j))[j * 2]? = some y := ⟨_, List.getElem?_eq_getElem (by rw [cz_len, HLEN.out]; omega)⟩
      obtain ⟨y1, hy1⟩ : ∃ y, (cz (nr.take j ++ r.drop j))[j * 2 + 1]? = some y := ⟨_, List.getElem?_eq_getElem (by rw [cz_len, HLEN.out]; omega)⟩
      rw [hy0] at q0
      rw [hy1] at q1
      have z0 := hrow5.frozenAt (j * 2)
      have z1 := hrow5.frozenAt (j * 2 + 1)
      have hO5 := (HO1.out.kept hb5).set (k := j) (x := p1) (y := p2) HSET.out (by rw [HLEN.out]; exact HU.out)
      rw [List.set_set, td_set HNJ.out (by rw [HNRL.out, HRM.out])] at hO5
      have hI5 : IvBox ((w5.setCell ⟨R', j * 2, none⟩ (.int .i64 p1)).setCell ⟨R', j * 2 + 1, none⟩ (.int .i64 p2)) w.heap.size (px, py) := by
        have hne : R' ≠ w.heap.size := by omega
        exact ((heap_set hne.symm).trans (heap_set hne.symm)).trans (iv_to hP hB5)
      have HE5 : Hid (El1 w0 O n us M k nr r w.heap.size px py (j + 1) ((w5.setCell ⟨R', j * 2, none⟩ (.int .i64 p1)).setCell ⟨R', j * 2 + 1, none⟩ (.int .i64 p2))) := Lib.hid ⟨hO5, hI5, hP0, ((hB1.trans (hb5.mono hB1.size)).setCell (p := ⟨R', j * 2, none⟩) b3 _).setCell (p := ⟨R', j * 2 + 1, none⟩) b3 _⟩
      clear hO5 hI5 hrow5 hy0 hy1 hcell2 hX hP
      go_wp2_with (fail)
      go_roundw
      case rel => exact ⟨j + 1, by go_num, by omega, HE5⟩
      case measure => simp [intOf]; omega
    · obtain rfl : j = m := by omega
      obtain ⟨E, hE⟩ : ∃ E, elimM M k = E := ⟨_, rfl⟩
      obtain ⟨M1, hM1⟩ : ∃ M1, M.set k nr = M1 := ⟨_, rfl⟩
      have HEE := Lib.hid hE
      have hEl : E.length = n := by rw [← hE, elim_len, HM.out]
      have hM1l : M1.length = n := by rw [← hM1, List.length_set, HM.out]
      have hEk : E[k]? = some nr := by rw [← hE, elim_at (by rw [HM.out]; exact hk), elimF, if_pos rfl, HNR.out]
      have hM1k : M1[k]? = some nr := by rw [← hM1, List.getElem?_set_self (by rw [HM.out]; exact hk)]
      have hrows : ∀ i, i < n → i ≠ k → ∃ s fx fy, M1[i]? = some s ∧ s.length = j ∧ (∀ p ∈ s, VB p) ∧ s[k]? = some (fx, fy) ∧ E[i]? = some (elimR nr (fx, fy) s) := by
        intro i hi hne
        obtain ⟨s, hs⟩ : ∃ s, M[i]? = some s := ⟨_, List.getElem?_eq_getElem (by rw [HM.out]; exact hi)⟩
        obtain ⟨hsl, hsv⟩ := HR.out s (List.mem_of_getElem? hs)
        have hsk : s[k]? = some (s[k]'(by omega)) := List.getElem?_eq_getElem _
        refine ⟨s, (s[k]'(by omega)).1, (s[k]'(by omega)).2, by rw [← hM1, List.getElem?_set_ne (fun q => hne q.symm), hs], hsl, hsv, hsk, ?_⟩
        rw [← hE, elim_at (by rw [HM.out]; exact hi), elimF, if_neg hne, HNR.out, hs]
        simp [elI, hs, hsk]
      have HEL := Lib.hid hEl
      have HML := Lib.hid hM1l
      have HEK := Lib.hid hEk
      have HMK := Lib.hid hM1k
      have HRS := Lib.hid hrows
      have hE2 : Hid (El2 w0 O n us (E.take 0 ++ M1.drop 0) wr) := by
        obtain ⟨hO1, _, _, hB1⟩ := HE.out
        rw [List.take_of_length_le (by rw [HNRL.out]; exact Nat.le_refl _), List.drop_of_length_le (by rw [HRM.out]; exact Nat.le_refl _), List.append_nil, hM1] at hO1
        exact Lib.hid ⟨by simpa using hO1, hB1⟩
      have hb0 := HE.out.2.2.2
      obtain ⟨R, c', hu', d1, d2, d3, d4, d5, hcell, hrow⟩ := own_row hE2.out.1 (td_get (j := 0) hEk hM1k)
      rw [HNRL.out] at hu' hcell
      obtain ⟨e1, _, e3⟩ := own_slot HU.out hu'
      subst e1 e3
      clear HE hE hM1 hEl hM1l hEk hM1k hrows hb0 hu' hcell hrow d1 d2 d3 d4 d5 hRw
      go_wp2_with (fail)
      go_loopw [41] (fun i wr => ∃ q : Nat, i = .int .i64 q ∧ q ≤ n ∧ Hid (El2 w0 O n us (E.take q ++ M1.drop q) wr)) (fun i _ => n - (intOf i).toNat)
      case atStart => exact ⟨0, rfl, Nat.zero_le _, hE2⟩
      case round =>
        clear hE2
        obtain ⟨q, rfl, hq, HE2⟩ := hrel
        by_cases hqn : q < n
        · have i3 : (q : Int) < n := by omega
          obtain ⟨hO2, hB2⟩ := HE2.out
          by_cases hqk : q = k
          · subst hqk
            have hsame := td_same HEK.out HMK.out (by rw [HEL.out, HML.out])
            obtain ⟨R2, c2, hu2, b1, b2, b3, b4, b5, hcell2, _⟩ := own_row hO2 (td_get (j := q) HEK.out HMK.out)
            rw [HNRL.out] at hcell2
            rw [hsame] at HE2
            clear hsame hO2 hu2
            go_wp2_with (fail)
            go_roundw
            case rel => exact ⟨q + 1, by go_num, by omega, HE2⟩
            case measure => simp [intOf]; omega
          · have hne : ((q : Int) == (k : Int)) = false := by rw [beq_eq_false_iff_ne]; omega
            obtain ⟨s, fx, fy, hM1q, hsl, hsv, hsk, hEq⟩ := HRS.out q hqn hqk
            have hcur : (E.take q ++ M1.drop q)[q]? = some s := by rw [td_at (by rw [HEL.out, HML.out]) (by rw [HEL.out]; exact hq), hM1q]
            have hcurk : (E.take q ++ M1.drop q)[k]? = some nr := td_get HEK.out HMK.out
            obtain ⟨R2, c2, hu2, b1, b2, b3, b4, b5, hcell2, hrow2⟩ := own_row hO2 hcur
            obtain ⟨R3, c3, hu3, _, _, d3, d4, d5, hcell3, hrow3⟩ := own_row hO2 hcurk
            rw [hsl] at hcell2 hu2
            rw [HNRL.out] at hcell3 hu3
            obtain ⟨e1, _, e3⟩ := own_slot HU.out hu3
            subst e1 e3
            have q0 := hrow2.cellAt (k * 2) (by rw [hsl]; omega)
            have q1 := hrow2.cellAt (k * 2 + 1) (by rw [hsl]; omega)
            rw [(cz_get _ _ _ hsk).1] at q0
            rw [(cz_get _ _ _ hsk).2] at q1
            dsimp only at q0 q1
            have hcur0 : (E.take q ++ M1.drop q).set q s = E.take q ++ M1.drop q := by
              apply List.ext_getElem?
              intro i
              by_cases h : i = q
              · subst h; rw [List.getElem?_set_self (List.getElem?_eq_some_iff.1 hcur).1, hcur]
              · rw [List.getElem?_set_ne (fun x => h x.symm)]
            obtain ⟨new, hnew⟩ : ∃ new, elimR nr (fx, fy) s = new := ⟨_, rfl⟩
            have hfv : VB (fx, fy) := hsv _ (List.mem_of_getElem? hsk)
            have hnewl : new.length = j := by rw [← hnew]; simp [elimR, hsl, HNRL.out]
            obtain ⟨C, hC⟩ : ∃ C, E.take q ++ M1.drop q = C := ⟨_, rfl⟩
            rw [hC] at hO2 hcur hcurk hcur0
            have hCl : q < C.length := (List.getElem?_eq_some_iff.1 hcur).1
            have hfin : C.set q new = E.take (q + 1) ++ M1.drop (q + 1) := by rw [← hC, td_set (by rw [hEq, hnew]) (by rw [HEL.out, HML.out])]
            have hE3 : ∀ W, Below wr.heap.size wr W → IvBox W wr.heap.size (fx, fy) → El3 w0 O n us C q new s wr.heap.size fx fy 0 W := fun W hb hI => ⟨by
              rw [List.take_zero, List.drop_zero, List.nil_append, hcur0]
              exact hO2.kept hb, hI, hB2.trans (hb.mono hB2.size)⟩
            have HE3 := Lib.hid hE3
            have HSL := Lib.hid hsl
            have HSV := Lib.hid hsv
            have HNEW := Lib.hid hnew
            have HNEWL := Lib.hid hnewl
            have HFV := Lib.hid hfv
            have HFIN := Lib.hid hfin
            have HU2 := Lib.hid hu2
            have HCK := Lib.hid hcurk
            have HCELL3 := Lib.hid hcell3
            have HK0 := Lib.hid hqk
            clear hE3 hsl hsv hnew hnewl hfv hfin hu2 hu3 hcurk hcell3 hO2 hcur hcur0 hC hM1q hsk hEq hrow2 hrow3 HE2 hqk
            obtain ⟨wF, rfl⟩ : ∃ wF, wF = wr := ⟨_, rfl⟩
            have hb3 : Below wF.heap.size wF (wF.alloc (.cells #[.int .i64 fx, .int .i64 fy] 38)) := (Below.refl _ wF).alloc (Nat.le_refl _) _
            have hE30 := Lib.hid (HE3.out _ hb3 (IvBox.new wF fx fy))
            have hck := (hb3.cell (p := ⟨O, k, none⟩) b2).trans HCELL3.out
            go_wp2_with (fail)
            clear HE3 q0 q1 hcell2 hck
            go_loopw [58] (fun i wr => ∃ d : Nat, i = .int .i64 d ∧ d ≤ j ∧ Hid (El3 w0 O n us C q new s wF.heap.size fx fy d wr)) (fun i _ => j - (intOf i).toNat)
            case atStart => exact ⟨0, rfl, Nat.zero_le _, hE30⟩
            case round =>
              clear hE30 hb3
              obtain ⟨d, rfl, hd, HD⟩ := hrel
              by_cases hdj : d < j
              · have i4 : (d : Int) < j := by omega
                obtain ⟨hO4, hI4, hB4⟩ := HD.out
                have hset : (C.set q (new.take d ++ s.drop d))[q]? = some (new.take d ++ s.drop d) := List.getElem?_set_self hCl
                have hsetk : (C.set q (new.take d ++ s.drop d))[k]? = some nr := by rw [List.getElem?_set_ne (fun x => HK0.out x), HCK.out]
                have hlen : (new.take d ++ s.drop d).length = j := by rw [td_len (by rw [HNEWL.out, HSL.out]) (by rw [HNEWL.out]; exact hd), HSL.out]
                obtain ⟨R4, c4, hu4, _, f2, f3, f4, f5, hcell4, hrow4⟩ := own_row hO4 hset
                obtain ⟨R5, c5, hu5, _, _, g3, g4, g5, hcell5, hrow5⟩ := own_row hO4 hsetk
                rw [hlen] at hu4 hcell4
                rw [HNRL.out] at hu5 hcell5
                obtain ⟨e1, _, e3⟩ := own_slot HU2.out hu4
                subst e1 e3
                obtain ⟨e1, _, e3⟩ := own_slot HU.out hu5
                subst e1 e3
                obtain ⟨x, y, hx⟩ : ∃ x y, s[d]? = some (x, y) := ⟨(s[d]'(by rw [HSL.out]; exact hdj)).1, (s[d]'(by rw [HSL.out]; exact hdj)).2, List.getElem?_eq_getElem _⟩
                obtain ⟨m1, m2, hm⟩ : ∃ m1 m2, nr[d]? = some (m1, m2) := ⟨(nr[d]'(by rw [HNRL.out]; exact hdj)).1, (nr[d]'(by rw [HNRL.out]; exact hdj)).2, List.getElem?_eq_getElem _⟩
                have hxv := HSV.out _ (List.mem_of_getElem? hx)
                have hmv := HNRV.out _ (List.mem_of_getElem? hm)
                have hat : (new.take d ++ s.drop d)[d]? = some (x, y) := by rw [td_at (by rw [HNEWL.out, HSL.out]) (by rw [HNEWL.out]; exact hd), hx]
                have q0 := hrow4.cellAt (d * 2) (by rw [hlen]; omega)
                have q1 := hrow4.cellAt (d * 2 + 1) (by rw [hlen]; omega)
                rw [(cz_get _ _ _ hat).1] at q0
                rw [(cz_get _ _ _ hat).2] at q1
                have p0 := hrow5.cellAt (d * 2) (by rw [HNRL.out]; omega)
                have p1 := hrow5.cellAt (d * 2 + 1) (by rw [HNRL.out]; omega)
                rw [(cz_get _ _ _ hm).1] at p0
                rw [(cz_get _ _ _ hm).2] at p1
                dsimp only at q0 q1 p0 p1
                obtain ⟨t1, t2, ht⟩ : ∃ t1 t2, mulI ((fx, fy), (m1, m2)) = (t1, t2) := ⟨_, _, rfl⟩
                obtain ⟨r1, r2, hrr⟩ : ∃ r1 r2, subI (x, y) (t1, t2) = (r1, r2) := ⟨_, _, rfl⟩
                have htv : VB (t1, t2) := by rw [← ht]; exact mul_vb _
                have hnd : new[d]? = some (r1, r2) := by
                  rw [← HNEW.out, elimR, List.getElem?_map, (List.getElem?_zip_eq_some (z := ((x, y), (m1, m2)))).2 ⟨hx, hm⟩, Option.map_some]
                  show some (subI (x, y) (mulI ((fx, fy), (m1, m2)))) = _
                  rw [ht, hrr]
                have hc1 := fun w => iv_mul fx fy m1 m2 w HFV.out hmv
                have hc2 := fun w => iv_sub x y t1 t2 w hxv htv
                rw [show mulLo fx fy m1 m2 = t1 from congrArg Prod.fst ht, show mulHi fx fy m1 m2 = t2 from congrArg Prod.snd ht] at hc1
                rw [show addLo x y (-t2) (-t1) = r1 from congrArg Prod.fst hrr, show addHi x y (-t2) (-t1) = r2 from congrArg Prod.snd hrr] at hc2
                have C1 := Lib.hid hc1
                have C2 := Lib.hid hc2
                have HSET := Lib.hid hset
                have HND := Lib.hid hnd
                have HLEN := Lib.hid hlen
                have HROW := Lib.hid hrow4
                have HO4 := Lib.hid hO4
                have HI4 := Lib.hid hI4
                have HQ0 := Lib.hid q0
                have HQ1 := Lib.hid q1
                clear hset hsetk hx hm hat ht hrr htv hnd hc1 hc2 hlen hrow4 hrow5 hO4 hu4 hu5 hxv hmv hI4 hcell4 hcell5 q0 q1
                go_wp2_with (fail)
                clear p0 p1
                obtain ⟨W2, hW2⟩ : ∃ W2, wr.alloc (.cells #[.int .i64 m1, .int .i64 m2] 38) = W2 := ⟨_, rfl⟩
                rw [hW2]
                have hb2 : Below wr.heap.size wr W2 := by rw [← hW2]; exact (Below.refl _ wr).alloc (Nat.le_refl _) _
                have hX : IvBox W2 wr.heap.size (m1, m2) := by rw [← hW2]; exact IvBox.new wr m1 m2
                have hP : IvBox W2 wF.heap.size (fx, fy) := iv_to HI4.out hb2
                have hq0 := (hb2.cell (p := ⟨R4, d * 2, none⟩) f4).trans HQ0.out
                have hq1 := (hb2.cell (p := ⟨R4, d * 2 + 1, none⟩) f4).trans HQ1.out
                have hR4 : R4 < W2.heap.size := Nat.lt_of_lt_of_le f4 hb2.size
                clear hW2
                refine region_data 11 38 _ (by kernel_rfl) new_iv (by kernel_rfl) ?_
                refine data_op (.slice (some ⟨R4, 0, none⟩) j c4) rfl (RQ_pure (fun w => by simp [go_sem])) ?_
                simp only [Act.put, List.setIfInBounds_toArray, List.set_cons_succ, List.set_cons_zero]
                refine data_op (.int .i64 (d : Int)) rfl (RQ_pure (fun w => by simp [go_sem])) ?_
                simp only [Act.put, List.setIfInBounds_toArray, List.set_cons_succ, List.set_cons_zero]
                refine data_op (.slice (some ⟨R4, 0, none⟩) j c4) rfl (RQ_pure (fun w => by simp [go_sem])) ?_
                simp only [Act.put, List.setIfInBounds_toArray, List.set_cons_succ, List.set_cons_zero]
                refine data_op (.int .i64 (d : Int)) rfl (RQ_pure (fun w => by simp [go_sem])) ?_
                simp only [Act.put, List.setIfInBounds_toArray, List.set_cons_succ, List.set_cons_zero]
                refine data_op (.pointer (some ⟨R4, d * 2, none⟩)) rfl (RQ_pure (fun w => by simp [go_sem, i4])) ?_
                simp only [Act.put, List.setIfInBounds_toArray, List.set_cons_succ, List.set_cons_zero]
                refine data_op _ rfl (RQ_load rfl rfl (load_iv_at hR4 hq0 hq1)) ?_
                simp only [Act.put, List.setIfInBounds_toArray, List.set_cons_succ, List.set_cons_zero]
                refine data_op _ rfl (RQ_load rfl rfl (load_iv hP.lt hP.cell0 hP.cell1)) ?_
                simp only [Act.put, List.setIfInBounds_toArray, List.set_cons_succ, List.set_cons_zero]
                refine data_op _ rfl (RQ_load rfl rfl (load_iv hX.lt hX.cell0 hX.cell1)) ?_
                simp only [Act.put, List.setIfInBounds_toArray, List.set_cons_succ, List.set_cons_zero]
                refine data_op _ rfl (RQ_call C1.out (fun _ => by simp [go_sem])) ?_
                simp only [Act.put, List.setIfInBounds_toArray, List.set_cons_succ, List.set_cons_zero]
                refine data_op _ rfl (RQ_call C2.out (fun _ => by simp [go_sem])) ?_
                simp only [Act.put, List.setIfInBounds_toArray, List.set_cons_succ, List.set_cons_zero]
                refine data_op (.pointer (some ⟨R4, d * 2, none⟩)) rfl (RQ_pure (fun w => by simp [go_sem, i4])) ?_
                simp only [Act.put, List.setIfInBounds_toArray, List.set_cons_succ, List.set_cons_zero]
                refine data_end ?_
                intro w5 hB5
                simp only [Act.put, List.drop_succ_cons, List.drop_zero, List.take_succ_cons, List.take_zero, alDsts, List.filterMap_cons, List.filterMap_nil, isAl, Bool.false_eq_true, if_false, if_true, finK]
                have hb5 : Below wr.heap.size wr w5 := hb2.trans (hB5.mono hb2.size)
                have hrow5 := HROW.out.kept (grown_below hb5) (.inr (by simp [Value.ownBlock]))
                have hs0 := (hB5.cell (p := ⟨R4, d * 2, none⟩) hR4).trans hq0
                have hs1 := (hB5.cell (p := ⟨R4, d * 2 + 1, none⟩) hR4).trans hq1
                have z0 := hrow5.frozenAt (d * 2)
                have z1 := hrow5.frozenAt (d * 2 + 1)
                have hO5 := (HO4.out.kept hb5).set (k := d) (x := r1) (y := r2) HSET.out (by rw [HLEN.out]; exact HU2.out)
                rw [List.set_set, td_set HND.out (by rw [HNEWL.out, HSL.out])] at hO5
                have hI5 : IvBox ((w5.setCell ⟨R4, d * 2, none⟩ (.int .i64 r1)).setCell ⟨R4, d * 2 + 1, none⟩ (.int .i64 r2)) wF.heap.size (fx, fy) := by
                  have hne : R4 ≠ wF.heap.size := by omega
                  exact ((heap_set hne.symm).trans (heap_set hne.symm)).trans (iv_to hP hB5)
                have HD5 : Hid (El3 w0 O n us C q new s wF.heap.size fx fy (d + 1) ((w5.setCell ⟨R4, d * 2, none⟩ (.int .i64 r1)).setCell ⟨R4, d * 2 + 1, none⟩ (.int .i64 r2))) := Lib.hid ⟨hO5, hI5, ((hB4.trans (hb5.mono hB4.size)).setCell (p := ⟨R4, d * 2, none⟩) f3 _).setCell (p := ⟨R4, d * 2 + 1, none⟩) f3 _⟩
                clear hO5 hI5 hrow5 hX hP hq0 hq1
                go_wp2_with (fail)
                go_roundw
                case rel => exact ⟨d + 1, by go_num, by omega, HD5⟩
                case measure => simp [intOf]; omega
              · obtain rfl : d = j := by omega
                have HE4 : Hid (El2 w0 O n us (E.take (q + 1) ++ M1.drop (q + 1)) wr) := by
                  obtain ⟨hO4, _, hB4⟩ := HD.out
                  rw [List.take_of_length_le (by rw [HNEWL.out]; exact Nat.le_refl _), List.drop_of_length_le (by rw [HSL.out]; exact Nat.le_refl _), List.append_nil, HFIN.out] at hO4
                  exact Lib.hid ⟨hO4, hB4⟩
                go_wp2_with (fail)
                go_roundw
                case rel => exact ⟨q + 1, by go_num, by omega, HE4⟩
                case measure => simp [intOf]; omega
        · obtain rfl : q = n := by omega
          go_wp2_with (fail)
          go_end0
          obtain ⟨hO3, hB3⟩ := HE2.out
          rw [List.take_of_length_le (by rw [HEL.out]; exact Nat.le_refl _), List.drop_of_length_le (by rw [HML.out]; exact Nat.le_refl _), List.append_nil, ← HEE.out] at hO3
          exact ⟨rfl, hO3, hB3⟩
end Go.Proofs.Ytmcdkbnpcmiojaa

namespace Go.Proofs.Ytmcdkbnpcmiojaa
open Go.ChangeShapes Go.WideShapes Go.ChangeAt Go.RowKit
set_option linter.unusedVariables false
set_option linter.unusedSimpArgs false
set_option maxRecDepth 100000

attribute [local irreducible] Calls
def isE (p : Int × Int) : Bool := (p.1 == -2147483648) && (p.2 == 2147483648)
theorem any_take_no {l : List (Int × Int)} {k : Nat} {x : Int × Int} (h : (l.take k).any isE = false) (hx : l[k]? = some x) (hb : isE x = false) : (l.take (k + 1)).any isE = false := by
  rw [List.take_add_one, hx, List.any_append, h]
  simp [hb]
theorem any_yes {l : List (Int × Int)} {k : Nat} {x : Int × Int} (hx : l[k]? = some x) (hb : isE x = true) : l.any isE = true :=
  List.any_eq_true.2 ⟨x, List.mem_of_getElem? hx, hb⟩
set_option maxHeartbeats 4000000 in
theorem index_ok (v : Value) (l : List (Int × Int)) (w : World) (hv : Bx w v l) :
    Calls Try.prog 83 #[v, .func (.func 69) #[] #[]] w fun e w' => ∃ r : Int, e = .returned (.int .i64 r) ∧ decide (0 ≤ r) = l.any isE ∧ Below w.heap.size w w' := by
  have hl := hv.1
  unfold maxLen at hl
  obtain ⟨p, c, rfl⟩ := hv.cut
  have HV := Lib.hid hv
  clear hv
  go_enter Try.func83, Try.ntmps83
  go_wp2_with (fail)
  go_loopw [8] (fun i wr => ∃ k : Nat, i = .int .i64 k ∧ k ≤ l.length ∧ Hid ((l.take k).any isE = false) ∧ ∃ g : Grown w, wr = g.w) (fun i _ => l.length - (intOf i).toNat)
  case atStart => exact ⟨0, rfl, Nat.zero_le _, Lib.hid rfl, ⟨w, Below.refl _ _⟩, rfl⟩
  case round =>
    obtain ⟨k, rfl, hk, HN, g0, rfl⟩ := hrel
    by_cases hlt : k < l.length
    · have i1 : (k : Int) < l.length := by omega
      obtain ⟨x, y, hx⟩ : ∃ x y, l[k]? = some (x, y) := ⟨l[k].1, l[k].2, List.getElem?_eq_getElem hlt⟩
      obtain ⟨b, o, hp, hb, rd⟩ := HV.out.rd2 hx
      subst hp
      have fA := (rd g0).2.1
      have fB := (rd g0).2.2
      have HX := Lib.hid hx
      clear rd hx
      cases hbo : isE (x, y) with
      | true =>
        have HC := Lib.hid (iv_isent x y true g0.w hbo)
        have HA : Hid (l.any isE = true) := Lib.hid (any_yes HX.out hbo)
        clear hbo
        go_wp2_with (fail)
        refine HC.out.mono ?_
        rintro e w5 ⟨rfl, hB5⟩
        go_wp2_with (fail)
        go_ret
        exact ⟨_, rfl, by rw [HA.out]; exact decide_eq_true (by omega), below_then g0.h hB5⟩
      | false =>
        have HC := Lib.hid (iv_isent x y false g0.w hbo)
        have HA : Hid ((l.take (k + 1)).any isE = false) := Lib.hid (any_take_no HN.out HX.out hbo)
        clear hbo
        go_wp2_with (fail)
        refine HC.out.mono ?_
        rintro e w5 ⟨rfl, hB5⟩
        go_wp2_with (fail)
        go_roundw
        case rel => exact ⟨k + 1, by go_num, by omega, HA, ⟨w5, below_then g0.h hB5⟩, rfl⟩
        case measure => simp [intOf]; omega
    · obtain rfl : k = l.length := by omega
      have hn := HN.out
      rw [List.take_of_length_le (Nat.le_refl _)] at hn
      have HA := Lib.hid hn
      clear hn
      go_wp2_with (fail)
      go_ret
      exact ⟨_, rfl, by rw [HA.out]; rfl, g0.h⟩
theorem contains_ok (v : Value) (l : List (Int × Int)) (w : World) (hv : Bx w v l) :
    Calls Try.prog 68 #[v, .func (.func 69) #[] #[]] w fun e w' => e = .returned (.bool (l.any isE)) ∧ Below w.heap.size w w' := by
  have HC := Lib.hid (index_ok v l w hv)
  clear hv
  go_enter Try.func68, Try.ntmps68
  go_wp2_with (fail)
  refine HC.out.mono ?_
  rintro e w5 ⟨r, rfl, hr, hB⟩
  have HR := Lib.hid hr
  have HB := Lib.hid hB
  clear hr hB
  go_wp2_with (fail)
  go_ret
  exact ⟨by rw [← HR.out]; rfl, HB.out⟩
end Go.Proofs.Ytmcdkbnpcmiojaa

namespace Go.Proofs.Ytmcdkbnpcmiojaa
open Go.ChangeShapes Go.WideShapes Go.ChangeAt Go.RowKit
set_option linter.unusedVariables false
set_option linter.unusedSimpArgs false
set_option maxRecDepth 100000

attribute [local irreducible] Calls
def noE (n : Nat) (M : List (List (Int × Int))) : Bool := M.all fun r => !(r.drop n).any isE
theorem noE_no {n k : Nat} {M : List (List (Int × Int))} {r : List (Int × Int)} (hr : M[k]? = some r) (h : (r.drop n).any isE = true) : noE n M = false := by
  unfold noE
  rw [List.all_eq_false]
  exact ⟨r, List.mem_of_getElem? hr, by simp only [h]; decide⟩
theorem noE_snoc {n k : Nat} {M : List (List (Int × Int))} {r : List (Int × Int)} (hr : M[k]? = some r) (h : (r.drop n).any isE = false) (h0 : noE n (M.take k) = true) : noE n (M.take (k + 1)) = true := by
  unfold noE at *
  rw [List.take_add_one, hr, Option.toList_some, List.all_append, h0]
  simp [h]
/-- The right half of a row: a slice further back in the same block. -/
theorem bx_drop {W : World} {B R c n : Nat} {r : List (Int × Int)} (h : W.ownsRow B 38 2 (.slice (some ⟨R, 0, none⟩) r.length c) r.length (cz r)) (hl : r.length = n + n) (h6 : n ≤ 6) (c2 : Nat) : Bx W (.slice (some ⟨R, n * 2, none⟩) n c2) (r.drop n) := by
  have hd : (r.drop n).length = n := by rw [List.length_drop]; omega
  refine ⟨by rw [hd]; unfold maxLen; omega, some ⟨R, n * 2, none⟩, c2, by rw [hd], fun k x hx => ?_⟩
  rw [List.getElem?_drop] at hx
  have hb := Bx.own h (by rw [hl]; unfold maxLen; omega)
  obtain ⟨_, p, cap, e, hp⟩ := hb
  obtain ⟨b, o, e2, h1, h2, h3⟩ := hp (n + k) x hx
  simp only [Value.slice.injEq] at e
  rw [← e.1] at e2
  simp only [Option.some.injEq, Addr.mk.injEq, and_true] at e2
  obtain ⟨rfl, rfl⟩ := e2
  refine ⟨R, n * 2, rfl, h1, ?_, ?_⟩
  · rw [show n * 2 + k * 2 = 0 + (n + k) * 2 by omega]; exact h2
  · rw [show n * 2 + k * 2 + 1 = 0 + (n + k) * 2 + 1 by omega]; exact h3
def RightEnd (w : World) (M : List (List (Int × Int))) (n : Nat) (e : Ending) (w' : World) : Prop :=
  (noE n M = true → ∃ u, e = .returned (.tuple #[u, .bool true]) ∧ Mx w' u (M.map fun r => r.drop n)) ∧ (noE n M = false → e = .returned (.tuple #[.slice none 0 0, .bool false])) ∧ Below w.heap.size w w'
def RightInv (w : World) (M : List (List (Int × Int))) (n k : Nat) (us rest : List Value) (wr : World) : Prop :=
  us.length = k ∧ (∀ (j : Nat) (u : Value) (x : List (Int × Int)), us[j]? = some u → (M.map fun r => r.drop n)[j]? = some x → Bx w u x) ∧ wr.ownsRow w.heap.size 40 1 (.slice (some ⟨w.heap.size, 0, none⟩) n n) n (us ++ rest) ∧ noE n (M.take k) = true ∧ Below w.heap.size w wr
set_option maxHeartbeats 8000000 in
theorem right_ok (B O n : Nat) (us : List Value) (M : List (List (Int × Int))) (w : World) (hO : OwnM B w (.slice (some ⟨O, 0, none⟩) n n) us M) (hM : M.length = n) (hr : ∀ r ∈ M, r.length = n + n) (h1 : 1 ≤ n) (h6 : n ≤ 6) :
    Calls Try.prog 44 #[.slice (some ⟨O, 0, none⟩) n n] w (RightEnd w M n) := by
  obtain ⟨i0, hi, hz0, hz1, hz2⟩ := info_parts info_row
  have HO := Lib.hid hO
  have HM := Lib.hid hM
  have HR := Lib.hid hr
  clear hO hM hr
  obtain ⟨W1, hW1⟩ : ∃ W1, w.alloc (.cells (madeCells (Value.cells (.slice none 0 0)) (n * 1)) 40) = W1 := ⟨_, rfl⟩
  have hmk : (Instr.makeSlice 34 (.int .i64 (n : Int)) (.int .i64 (n : Int))).run Try.prog w = .ok (.slice (some ⟨w.heap.size, 0, none⟩) n n) W1 := by
    have := run_make (P := Try.prog) w 34 40 i0 _ Try.underlying34 hi hz0 .i64 .i64 n n (by omega) (Int.le_refl _) (by rw [hz2]; omega) (by omega)
    rw [hz1] at this
    rw [← hW1]
    simpa using this
  obtain ⟨rest, hrow0⟩ : ∃ rest, W1.ownsRow w.heap.size 40 1 (.slice (some ⟨w.heap.size, 0, none⟩) n n) n rest := by
    rw [← hW1]
    exact ⟨_, World.ownsRow_lit w _ n (Nat.le_refl _) (by unfold maxLen; omega) (size_madeCells _ _)⟩
  have hB1 : Below w.heap.size w W1 := by rw [← hW1]; exact (Below.refl _ w).alloc (Nat.le_refl _) _
  have hI0 : Hid (RightInv w M n 0 [] rest W1) := Lib.hid ⟨rfl, fun j u x h => by simp at h, by simpa using hrow0, by simp [noE], hB1⟩
  clear hW1 hi hz0 hz1 hz2 hrow0 hB1
  go_enter Try.func44, Try.ntmps44
  go_wp2_with (fail)
  clear hmk
  go_loopw [12] (fun i wr => ∃ (k : Nat) (vs rest : List Value), i = .int .i64 k ∧ k ≤ n ∧ Hid (RightInv w M n k vs rest wr)) (fun i _ => n - (intOf i).toNat)
  case atStart => exact ⟨0, [], rest, rfl, Nat.zero_le _, hI0⟩
  case round =>
    clear hI0
    obtain ⟨k, vs, rest', rfl, hk, HI⟩ := hrel
    obtain ⟨hvl, hbx, hown, hno, hB⟩ := HI.out
    by_cases hlt : k < n
    · have ik : (k : Int) < n := by omega
      obtain ⟨r, hrk⟩ : ∃ r, M[k]? = some r := ⟨_, List.getElem?_eq_getElem (by rw [HM.out]; exact hlt)⟩
      have hrn := HR.out r (List.mem_of_getElem? hrk)
      obtain ⟨R, c, hu, b1, b2, b3, b4, b5, hcell, hrow⟩ := own_row HO.out hrk
      have hc : n + n ≤ c := by
        rcases hrow.2 with ⟨e, e2⟩ | ⟨g, cap, cur, e, _, _, hle, _⟩
        · omega
        · simp only [Value.slice.injEq, Option.some.injEq, Addr.mk.injEq, true_and, and_true] at e
          omega
      have hbd := bx_drop hrow hrn h6 (c - n)
      rw [hrn] at hcell
      have fO := (hB.cell (p := ⟨O, k, none⟩) b2).trans hcell
      have hwl := (hown.lt w.heap.size rfl).2
      obtain ⟨hlen5, _⟩ := id hown
      rw [List.length_append, hvl] at hlen5
      match rest', hlen5 with
      | [], h => exfalso; simp at h; omega
      | r0 :: rest'', h =>
      have q0 := hown.cellAt k (by omega)
      rw [List.getElem?_append_right (by rw [hvl]; omega), hvl, Nat.sub_self] at q0
      simp only [List.getElem?_cons_zero] at q0
      have z0 := hown.frozenAt k
      clear h
      have s1 := hown.stored k (.slice (some ⟨R, n * 2, none⟩) n (c - n))
      have e2 : (vs ++ r0 :: rest'').set k (.slice (some ⟨R, n * 2, none⟩) n (c - n)) = vs ++ [.slice (some ⟨R, n * 2, none⟩) n (c - n)] ++ rest'' := by
        rw [List.set_append_right _ _ (by rw [hvl]; omega), hvl, Nat.sub_self]
        simp
      rw [e2] at s1
      have hBs : Below w.heap.size w (wr.setCell ⟨w.heap.size, k, none⟩ (.slice (some ⟨R, n * 2, none⟩) n (c - n))) := hB.setCell (p := ⟨w.heap.size, k, none⟩) (Nat.le_refl _) _
      have c0 := s1.1.cellAt k (by omega)
      rw [List.append_assoc, List.getElem?_append_right (by rw [hvl]; exact Nat.le_refl _), hvl, Nat.sub_self, List.singleton_append, List.getElem?_cons_zero] at c0
      have HC := Lib.hid (contains_ok (.slice (some ⟨R, n * 2, none⟩) n (c - n)) (r.drop n) (wr.setCell ⟨w.heap.size, k, none⟩ (.slice (some ⟨R, n * 2, none⟩) n (c - n))) (hbd.grow hBs))
      have hcap : ¬ (c = n) := by omega
      have HS1 := Lib.hid s1.1
      have HRK := Lib.hid hrk
      have HBD := Lib.hid hbd
      have HVL := Lib.hid hvl
      have HBX := Lib.hid hbx
      have HNO := Lib.hid hno
      clear s1 e2 hown hrow hrk hbd hvl hbx hno hu hcell hrn
      go_wp2_with (fail)
      refine HC.out.mono ?_
      rintro e w5 ⟨rfl, hB5⟩
      have hB6 : Below w.heap.size w w5 := hBs.trans (hB5.mono hBs.size)
      by_cases hany : (r.drop n).any isE = true
      · have hz := noE_no HRK.out hany
        rw [hany]
        have HZ := Lib.hid hz
        clear hany hz
        go_wp2_with (fail)
        go_ret2
        exact ⟨(fun h => by rw [HZ.out] at h; cases h), fun _ => rfl, hB6⟩
      · have hany' : (r.drop n).any isE = false := by simpa using hany
        have hno2 := noE_snoc HRK.out hany' HNO.out
        rw [hany']
        have HI6 : Hid (RightInv w M n (k + 1) (vs ++ [.slice (some ⟨R, n * 2, none⟩) n (c - n)]) rest'' w5) := Lib.hid ⟨by rw [List.length_append, HVL.out]; rfl, by
          intro j u x hu hx
          by_cases hj : j < k
          · rw [List.getElem?_append_left (by rw [HVL.out]; exact hj)] at hu
            exact HBX.out j u x hu hx
          · have hju : j = k := by
              have := (List.getElem?_eq_some_iff.1 hu).1
              rw [List.length_append, HVL.out, List.length_singleton] at this
              omega
            subst hju
            rw [List.getElem?_append_right (by rw [HVL.out]; exact Nat.le_refl _), HVL.out, Nat.sub_self] at hu
            rw [List.getElem?_map, HRK.out] at hx
            simp only [List.getElem?_cons_zero, Option.some.injEq, Option.map_some] at hu hx
            rw [← hu, ← hx]
            exact HBD.out, HS1.out.kept (grown_below hB5) (.inr (by simp [Value.ownBlock])), hno2, hB6⟩
        clear hany hany' hno2
        go_wp2_with (fail)
        go_roundw
        case rel => exact ⟨k + 1, _, rest'', by go_num, by omega, HI6⟩
        case measure => simp [intOf]; omega
    · obtain rfl : k = n := by omega
      have HBX := Lib.hid hbx
      have HNO := Lib.hid hno
      have HOWN := Lib.hid hown
      have HVL := Lib.hid hvl
      clear hbx hno hown hvl
      go_wp2_with (fail)
      go_ret2
      have hown := HOWN.out
      have hlen := hown.1
      rw [List.length_append, HVL.out] at hlen
      have hr : rest' = [] := List.length_eq_zero_iff.1 (by omega)
      rw [hr, List.append_nil] at hown
      have hno := HNO.out
      rw [List.take_of_length_le (by rw [HM.out]; exact Nat.le_refl _)] at hno
      refine ⟨fun _ => ⟨_, rfl, ?_⟩, (fun h => by rw [hno] at h; cases h), hB⟩
      have hml : (M.map fun r => r.drop k).length = k := by rw [List.length_map, HM.out]
      have := Lx.own (P := Bx) (B := w.heap.size) (W := wr) (v := .slice (some ⟨w.heap.size, 0, none⟩) k k) (us := vs) (l := M.map fun r => r.drop k) (by rw [hml]; exact hown) (by rw [hml]; unfold maxLen; omega) (fun j u x hu hx => (HBX.out j u x hu hx).grow hB)
      exact this
end Go.Proofs.Ytmcdkbnpcmiojaa

namespace Go.Proofs.Ytmcdkbnpcmiojaa
open Go.ChangeShapes Go.WideShapes Go.ChangeAt Go.RowKit
set_option linter.unusedVariables false
set_option linter.unusedSimpArgs false
set_option maxRecDepth 100000

attribute [local irreducible] Calls
theorem sw_get {α : Type} {l : List α} {k p : Nat} {a b : α} (hk : l[k]? = some a) (hp : l[p]? = some b) (i : Nat) : ((l.set k b).set p a)[i]? = l[if i = p then k else if i = k then p else i]? := by
  have h1 := (List.getElem?_eq_some_iff.1 hk).1
  have h2 := (List.getElem?_eq_some_iff.1 hp).1
  by_cases e : i = p
  · subst e
    rw [if_pos rfl, List.getElem?_set_self (by rw [List.length_set]; exact h2), hk]
  · rw [if_neg e, List.getElem?_set_ne (fun q => e q.symm)]
    by_cases e2 : i = k
    · subst e2
      rw [if_pos rfl, List.getElem?_set_self h1, hp]
    · rw [if_neg e2, List.getElem?_set_ne (fun q => e2 q.symm)]
theorem OwnM.swap {B O n k p : Nat} {w : World} {us : List Value} {M : List (List (Int × Int))} {uk up : Value} {rk rp : List (Int × Int)} (h : OwnM B w (.slice (some ⟨O, 0, none⟩) n n) us M) (hn : M.length = n)
    (uk' : us[k]? = some uk) (up' : us[p]? = some up) (rk' : M[k]? = some rk) (rp' : M[p]? = some rp) :
    OwnM B ((w.setCell ⟨O, k, none⟩ up).setCell ⟨O, p, none⟩ uk) (.slice (some ⟨O, 0, none⟩) n n) ((us.set k up).set p uk) ((M.set k rp).set p rk) := by
  have hO := h.out
  rw [hn] at hO
  have s1 := hO.stored k up
  have s2 := s1.1.stored p uk
  refine ⟨?_, fun i r hr => ?_, fun i j R m c m' c' hi hj => ?_⟩
  · rw [List.length_set, List.length_set, hn]
    exact s2.1
  · rw [sw_get rk' rp'] at hr
    obtain ⟨R, c, hu, b1, b2, b3, b4, b5, hcell, hrow⟩ := own_row h hr
    exact ⟨R, c, by rw [sw_get uk' up']; exact hu, (hrow.kept s1.2 (.inr (by simpa [Value.ownBlock] using fun e => b5 e.symm))).kept s2.2 (.inr (by simpa [Value.ownBlock] using fun e => b5 e.symm))⟩
  · rw [sw_get uk' up'] at hi hj
    have := h.far _ _ _ _ _ _ _ hi hj
    split at this <;> split at this <;> (try split at this) <;> (try split at this) <;> omega
def swapM (M : List (List (Int × Int))) (k p : Nat) : List (List (Int × Int)) := (M.set k (M[p]?.getD [])).set p (M[k]?.getD [])
def sgI (p : Int × Int) : Int := sg p.1 p.2
def invStep (M : List (List (Int × Int))) (k : Nat) : List (List (Int × Int)) := elimM (swapM M k (pivV M k)) k
def invS (n : Nat) : Nat → Nat → List (List (Int × Int)) → Option (List (List (Int × Int)))
  | 0, k, M => if noE n M = true then some (M.map fun r => r.drop n) else none
  | f + 1, k, M => if sgI (elI M (pivV M k) k) = 0 then none else invS n f (k + 1) (invStep M k)
def invV (M : List (List (Int × Int))) (n : Nat) : Option (List (List (Int × Int))) := invS n n 0 (augM M n)
def Wide (n : Nat) (M : List (List (Int × Int))) : Prop := M.length = n ∧ ∀ r ∈ M, r.length = n + n ∧ ∀ p ∈ r, VB p
theorem aug_wide {M : List (List (Int × Int))} {n : Nat} (h : Sq n M) : Wide n (augM M n) := by
  refine ⟨by simp [augM], fun r hr => ?_⟩
  unfold augM at hr
  rw [List.mem_map] at hr
  obtain ⟨i, hi, rfl⟩ := hr
  have hin : i < M.length := by rw [h.1]; exact List.mem_range.1 hi
  have hx := List.getElem?_eq_getElem hin
  obtain ⟨h1, h2⟩ := h.2 M[i] (List.getElem_mem hin)
  refine ⟨by rw [aug_len M n i M[i] hx, h1], fun p hp => ?_⟩
  unfold augF at hp
  rw [hx, Option.getD_some, List.mem_append] at hp
  rcases hp with hp | hp
  · exact h2 p hp
  · unfold rowOf at hp
    rw [List.mem_map] at hp
    obtain ⟨j, _, rfl⟩ := hp
    unfold idF
    split
    · exact .inr ⟨⟨by decide, by decide⟩, ⟨by decide, by decide⟩, by decide⟩
    · exact vb_zero
theorem swap_wide {M : List (List (Int × Int))} {n k p : Nat} (h : Wide n M) (hk : k < n) (hp : p < n) : Wide n (swapM M k p) := by
  have h1 := List.getElem?_eq_getElem (show k < M.length by rw [h.1]; exact hk)
  have h2 := List.getElem?_eq_getElem (show p < M.length by rw [h.1]; exact hp)
  refine ⟨by simp [swapM, h.1], fun r hr => ?_⟩
  obtain ⟨i, hi⟩ := List.getElem?_of_mem hr
  unfold swapM at hi
  rw [h1, h2, Option.getD_some, Option.getD_some, sw_get h1 h2] at hi
  exact h.2 r (List.mem_of_getElem? hi)
theorem el_vb {M : List (List (Int × Int))} {n i k : Nat} (h : Wide n M) (hi : i < n) (hk : k < n + n) : VB (elI M i k) := by
  have hi' : i < M.length := by rw [h.1]; exact hi
  have h1 := List.getElem?_eq_getElem (show i < M.length by rw [h.1]; exact hi)
  obtain ⟨h3, h4⟩ := h.2 M[i] (List.getElem_mem _)
  have h2 := List.getElem?_eq_getElem (show k < M[i].length by rw [h3]; exact hk)
  unfold elI
  rw [h1, Option.bind_some, h2, Option.getD_some]
  exact h4 _ (List.getElem_mem _)
theorem elim_wide {M : List (List (Int × Int))} {n k : Nat} (h : Wide n M) (hk : k < n) : Wide n (elimM M k) := by
  have hk' : k < M.length := by rw [h.1]; exact hk
  have h1 := List.getElem?_eq_getElem (show k < M.length by rw [h.1]; exact hk)
  obtain ⟨h3, h4⟩ := h.2 M[k] (List.getElem_mem _)
  have hp := el_vb h hk (show k < n + n by omega)
  have hnl : (nrmR M k).length = n + n := by simp [nrmR, h1, h3]
  have hnv : ∀ p ∈ nrmR M k, VB p := by
    intro p hp'
    unfold nrmR at hp'
    rw [List.mem_map] at hp'
    obtain ⟨x, _, rfl⟩ := hp'
    exact div_vb hp
  refine ⟨by rw [elim_len, h.1], fun r hr => ?_⟩
  unfold elimM at hr
  rw [List.mem_map] at hr
  obtain ⟨i, hi, rfl⟩ := hr
  have hin := List.mem_range.1 hi
  unfold elimF
  split
  · exact ⟨hnl, hnv⟩
  · have hx := List.getElem?_eq_getElem hin
    obtain ⟨g1, g2⟩ := h.2 M[i] (List.getElem_mem _)
    rw [hx, Option.getD_some]
    refine ⟨by simp [elimR, g1, hnl], fun p hp' => ?_⟩
    unfold elimR at hp'
    rw [List.mem_map] at hp'
    obtain ⟨z, hz, rfl⟩ := hp'
    have := List.of_mem_zip hz
    exact sub_vb (g2 _ this.1) (mul_vb _)
def InvEnd (w : World) (M : List (List (Int × Int))) (n : Nat) (e : Ending) (w' : World) : Prop :=
  (∀ N, invV M n = some N → ∃ u, e = .returned (.tuple #[u, .bool true]) ∧ Mx w' u N) ∧ (invV M n = none → e = .returned (.tuple #[.slice none 0 0, .bool false])) ∧ Below w.heap.size w w'
def InvInv (w : World) (M0 : List (List (Int × Int))) (O n k : Nat) (us : List Value) (M : List (List (Int × Int))) (wr : World) : Prop :=
  OwnM w.heap.size wr (.slice (some ⟨O, 0, none⟩) n n) us M ∧ Wide n M ∧ invS n (n - k) k M = invV M0 n ∧ Below w.heap.size w wr
set_option maxHeartbeats 8000000 in
theorem inv_ok (v : Value) (M : List (List (Int × Int))) (n : Nat) (w : World) (hv : Mx w v M) (hM : Sq n M) (h1 : 1 ≤ n) (h6 : n ≤ 6) :
    Calls Try.prog 18 #[v] w (InvEnd w M n) := by
  have hsq := sq_true hM.1 (fun r hr => (hM.2 r hr).1) h1 h6
  have HS := Lib.hid (mx_square v M w hv)
  rw [hsq] at HS
  have HV := Lib.hid hv
  have HM := Lib.hid hM
  clear hv hM hsq
  go_enter Try.func18, Try.ntmps18
  go_wp2_with (fail)
  refine HS.out.mono ?_
  rintro e w1 ⟨rfl, hB1⟩
  have HA := Lib.hid (aug_ok v M n w1 (HV.out.grow grows_bx hB1) HM.out.1 (fun r hr => (HM.out.2 r hr).1) h1 h6)
  go_wp2_with (fail)
  refine HA.out.mono ?_
  rintro e w2 ⟨O, us, rfl, hO2, hB2⟩
  have hI0 : Hid (InvInv w1 M O n 0 us (augM M n) w2) := Lib.hid ⟨hO2, aug_wide HM.out, rfl, hB2⟩
  clear hO2 HA
  go_wp2_with (fail)
  go_loopw [14] (fun i wr => ∃ (k : Nat) (us : List Value) (N : List (List (Int × Int))), i = .int .i64 k ∧ k ≤ n ∧ Hid (InvInv w1 M O n k us N wr)) (fun i _ => n - (intOf i).toNat)
  case atStart => exact ⟨0, us, _, rfl, Nat.zero_le _, hI0⟩
  case round =>
    clear hI0 hB2 us
    obtain ⟨k, us, N, rfl, hk, HI⟩ := hrel
    by_cases hlt : k < n
    · have ik : (k : Int) < n := by omega
      obtain ⟨hO, hW, hS, hB⟩ := HI.out
      have hmx := hO.mx (by rw [hW.1]; unfold maxLen; omega) (fun r hr => by rw [(hW.2 r hr).1]; unfold maxLen; omega)
      have HP := Lib.hid (pivot_ok _ N k wr hmx (by rw [hW.1]; exact h6) (by rw [hW.1]; exact hlt) (fun r hr => ⟨by rw [(hW.2 r hr).1]; omega, (hW.2 r hr).2⟩))
      have hpl := bst_le N k (N.length - (k + 1))
      obtain ⟨p, hp⟩ : ∃ p, pivV N k = p := ⟨_, rfl⟩
      rw [hp] at HP
      have hpk : k ≤ p ∧ p < n := by
        have e : pivV N k = bst N k (N.length - (k + 1)) := rfl
        rw [← e, hp, hW.1] at hpl
        omega
      have ip : (p : Int) < n := by omega
      obtain ⟨rp, hrp⟩ : ∃ r, N[p]? = some r := ⟨_, List.getElem?_eq_getElem (by rw [hW.1]; exact hpk.2)⟩
      obtain ⟨rk, hrk⟩ : ∃ r, N[k]? = some r := ⟨_, List.getElem?_eq_getElem (by rw [hW.1]; exact hlt)⟩
      obtain ⟨hrpl, hrpv⟩ := hW.2 rp (List.mem_of_getElem? hrp)
      obtain ⟨hrkl, hrkv⟩ := hW.2 rk (List.mem_of_getElem? hrk)
      obtain ⟨R, c, hu, b1, b2, b3, b4, b5, hcell, hrow⟩ := own_row hO hrp
      obtain ⟨R2, c2, hu2, _, _, d3, d4, d5, hcell2, hrow2⟩ := own_row hO hrk
      rw [hrpl] at hcell hu
      rw [hrkl] at hcell2 hu2
      obtain ⟨x, y, hx⟩ : ∃ x y, rp[k]? = some (x, y) := ⟨(rp[k]'(by omega)).1, (rp[k]'(by omega)).2, List.getElem?_eq_getElem _⟩
      have hxv := hrpv _ (List.mem_of_getElem? hx)
      have hel : elI N p k = (x, y) := by simp [elI, hrp, hx]
      have q0 := hrow.cellAt (k * 2) (by omega)
      have q1 := hrow.cellAt (k * 2 + 1) (by omega)
      rw [(cz_get _ _ _ hx).1] at q0
      rw [(cz_get _ _ _ hx).2] at q1
      dsimp only at q0 q1
      have hnk : n - k = (n - (k + 1)) + 1 := by omega
      have hS2 : (if sgI (x, y) = 0 then none else invS n (n - (k + 1)) (k + 1) (invStep N k)) = invV M n := by
        rw [← hS, hnk, invS, hp, hel]
      obtain ⟨s, hs⟩ : ∃ s, sg x y = s := ⟨_, rfl⟩
      have hsgn := fun w => iv_sign x y w
      rw [hs] at hsgn
      have i2 : (k : Int) < ((n + n : Nat) : Int) := by omega
      have HSG := Lib.hid hsgn
      have HS2 := Lib.hid hS2
      have HSS := Lib.hid hs
      have HO := Lib.hid hO
      have HW := Lib.hid hW
      have HU := Lib.hid hu
      have HU2 := Lib.hid hu2
      have HRP := Lib.hid hrp
      have HRK := Lib.hid hrk
      have HPP := Lib.hid hp
      clear hO hW hS hmx hpl hp hrp hrk hrpl hrpv hrkl hrkv hu hu2 hrow hrow2 hx hxv hel hnk hS2 hs hsgn
      go_wp2_with (fail)
      refine HP.out.mono ?_
      rintro e w3 ⟨rfl, hB3⟩
      have fO := (hB3.cell (p := ⟨O, p, none⟩) b2).trans hcell
      have fO2 := (hB3.cell (p := ⟨O, k, none⟩) b2).trans hcell2
      have f0 := (hB3.cell (p := ⟨R, k * 2, none⟩) b4).trans q0
      have f1 := (hB3.cell (p := ⟨R, k * 2 + 1, none⟩) b4).trans q1
      clear q0 q1 hcell hcell2
      go_wp2_with (fail)
      refine (HSG.out _).mono ?_
      rintro e w4 ⟨rfl, hB4⟩
      have hB5 : Below wr.heap.size wr w4 := hB3.trans (hB4.mono hB3.size)
      by_cases hs0 : s = 0
      · have hnone : invV M n = none := by rw [← HS2.out, if_pos (by show sg x y = 0; rw [HSS.out, hs0])]
        subst hs0
        have HN := Lib.hid hnone
        clear hnone
        go_wp2_with (fail)
        go_ret2
        exact ⟨fun N h => (by rw [HN.out] at h; cases h), fun _ => rfl, hB1.trans ((hB.trans (hB5.mono hB.size)).mono hB1.size)⟩
      · have hsb : (s == 0) = false := by simpa using hs0
        have fO4 := (hB4.cell (p := ⟨O, p, none⟩) (Nat.lt_of_lt_of_le b2 hB3.size)).trans fO
        have fO5 := (hB4.cell (p := ⟨O, k, none⟩) (Nat.lt_of_lt_of_le b2 hB3.size)).trans fO2
        have hS3 : invS n (n - (k + 1)) (k + 1) (invStep N k) = invV M n := by rw [← HS2.out, if_neg (by show ¬ sg x y = 0; rw [HSS.out]; exact hs0)]
        have HS3 := Lib.hid hS3
        have hOl := Nat.lt_of_lt_of_le b2 hB5.size
        clear hS3 fO fO2 f0 f1
        go_wp2_with (fail)
        have hO5 := HO.out.kept hB5
        have hO5' := hO5.out
        rw [HW.out.1] at hO5'
        have z0 := hO5'.frozenAt k
        have z1 := hO5'.frozenAt p
        have s1 := (hO5'.stored k (.slice (some ⟨R, 0, none⟩) (n + n) c)).1
        have y0 := s1.cellAt p (by omega)
        have y1 := s1.frozenAt p
        obtain ⟨uu, huu⟩ : ∃ u, (us.set k (.slice (some ⟨R, 0, none⟩) (n + n) c))[p]? = some u := ⟨_, List.getElem?_eq_getElem (by have := hO5'.1; rw [List.length_set]; omega)⟩
        rw [huu] at y0
        have hsw := hO5.swap HW.out.1 HU2.out HU.out HRK.out HRP.out
        have hsm : (N.set k rp).set p rk = swapM N k p := by unfold swapM; rw [HRP.out, HRK.out]; rfl
        rw [hsm] at hsw
        have HSW := Lib.hid hsw
        clear hsw hsm hO5 hO5' huu s1
        go_region
        go_wp2_with (fail)
        have hWs := swap_wide HW.out hlt hpk.2
        have hBs : Below w1.heap.size w1 ((w4.setCell ⟨O, k, none⟩ (.slice (some ⟨R, 0, none⟩) (n + n) c)).setCell ⟨O, p, none⟩ (.slice (some ⟨R2, 0, none⟩) (n + n) c2)) := ((hB.trans (hB5.mono hB.size)).setCell (p := ⟨O, k, none⟩) b1 _).setCell (p := ⟨O, p, none⟩) b1 _
        obtain ⟨WS, hWS⟩ : ∃ WS, (w4.setCell ⟨O, k, none⟩ (.slice (some ⟨R, 0, none⟩) (n + n) c)).setCell ⟨O, p, none⟩ (.slice (some ⟨R2, 0, none⟩) (n + n) c2) = WS := ⟨_, rfl⟩
        rw [hWS] at HSW hBs
        rw [hWS]
        have hBd : Below WS.heap.size WS WS.drew := (Below.refl _ _).drew
        refine (elim_ok O n (n + n) k _ (swapM N k p) w1 _ (HSW.out.kept hBd) hWs.1 hWs.2 hlt (by omega) h6 (by omega) (hBs.trans (hBd.mono hBs.size))).mono ?_
        rintro e w6 ⟨rfl, hO6, hB6⟩
        have hI6 : Hid (InvInv w1 M O n (k + 1) ((us.set k (.slice (some ⟨R, 0, none⟩) (n + n) c)).set p (.slice (some ⟨R2, 0, none⟩) (n + n) c2)) (invStep N k) w6) := Lib.hid ⟨by unfold invStep; rw [HPP.out]; exact hO6, by unfold invStep; rw [HPP.out]; exact elim_wide hWs hlt, HS3.out, hB6⟩
        clear hO6 hWs fO4 fO5 y0 y1 z0 z1 hsb
        go_wp2_with (fail)
        go_roundw
        case rel => exact ⟨k + 1, _, _, by go_num, by omega, hI6⟩
        case measure => simp [intOf]; omega
    · obtain rfl : k = n := by omega
      obtain ⟨hO, hW, hS, hB⟩ := HI.out
      have HR := Lib.hid (right_ok w1.heap.size O k us N wr hO hW.1 (fun r hr => (hW.2 r hr).1) h1 h6)
      rw [Nat.sub_self, invS] at hS
      have HS := Lib.hid hS
      clear hO hW hS
      go_wp2_with (fail)
      refine HR.out.mono ?_
      rintro e w3 ⟨r1, r2, r3⟩
      have hB4 : Below w.heap.size w w3 := hB1.trans ((hB.trans (r3.mono hB.size)).mono hB1.size)
      by_cases hn : noE k N = true
      · obtain ⟨u, rfl, hmx⟩ := r1 hn
        have hs := HS.out
        rw [if_pos hn] at hs
        have HSS := Lib.hid hs
        have HMX := Lib.hid hmx
        clear r1 r2 hn hs hmx
        go_wp2_with (fail)
        go_ret2
        exact ⟨fun N' h => ⟨u, rfl, by rw [← HSS.out] at h; rw [← Option.some.inj h]; exact HMX.out⟩, fun h => (by rw [← HSS.out] at h; cases h), hB4⟩
      · have hn' : noE k N = false := by simpa using hn
        have he := r2 hn'
        subst he
        have hs := HS.out
        rw [if_neg hn] at hs
        have HSS := Lib.hid hs
        clear r1 r2 hn hn' hs
        go_wp2_with (fail)
        go_ret2
        exact ⟨fun N' h => (by rw [← HSS.out] at h; cases h), fun _ => rfl, hB4⟩
end Go.Proofs.Ytmcdkbnpcmiojaa
