/-
  Jp R3 R5
-/
import Derived.Test.YtbppfohcicepcaaGreatKba
import Derived.Test.YtbppfohcicepcaaGreatKbb
import Derived.Test.YtbppfohcicepcaaGreatKbc
import Derived.Test.YtbppfohcicepcaaGreatKbk
import Derived.Test.YtbppfohcicepcaaGreatKbm
import Derived.Test.YtbppfohcicepcaaGreatKbze
import Derived.Outline
import Derived.WalkMore
namespace Go.Proofs.YtbppfohcicepcaaGreat
open Go.ChangeShapes Go.WideShapes Go.ChangeAt Go.RowKit
set_option linter.unusedVariables false
set_option linter.unusedSimpArgs false
set_option maxRecDepth 100000
attribute [local irreducible] Calls
theorem nxc_take {w : World} {p : Option Addr} {n c m : Nat} {l : List Nd} (h : NxC w (.slice p n c) l) (hm : m ≤ n) (hp : p ≠ none) : NxC w (.slice p m c) (l.take m) := by
  obtain ⟨h1, p', c', e, hc, _⟩ := h
  simp only [Value.slice.injEq] at e
  obtain ⟨rfl, rfl, rfl⟩ := e
  exact ⟨Rx.take h1 hm, _, _, by rw [List.length_take, Nat.min_eq_left hm], by rw [List.length_take]; omega, fun h => absurd h hp⟩
/-- A row of lists that lie elsewhere, in memory that stays. -/
structure OwnV (B : Nat) (w0 W : World) (v : Value) (l : List (List Nd)) (us : List Value) : Prop where
  row : W.ownsRow B 23 1 v l.length us
  el : ∀ (k : Nat) (u : Value) (x : List Nd), us[k]? = some u → l[k]? = some x → NxC w0 u x
section
variable {B : Nat} {w0 W W' : World} {v v' u : Value} {l : List (List Nd)} {us : List Value} {x : List Nd}
theorem OwnV.kept (h : OwnV B w0 W v l us) (hB : Below W.heap.size W W') : OwnV B w0 W' v l us := ⟨own_keptN h.row hB, h.el⟩
theorem OwnV.push (h : OwnV B w0 W v l us) (hu : NxC w0 u x) (hr : W'.ownsRow B 23 1 v' (l.length + 1) (us ++ [u])) : OwnV B w0 W' v' (l ++ [x]) (us ++ [u]) := by
  refine ⟨by rw [List.length_append]; exact hr, fun k u' x' h1 h2 => ?_⟩
  have hl : us.length = l.length := by have := h.row.1; omega
  by_cases hk : k < l.length
  · rw [List.getElem?_append_left (by omega)] at h1
    rw [List.getElem?_append_left hk] at h2
    exact h.el k u' x' h1 h2
  · have hk2 : k = l.length := by
      have := (List.getElem?_eq_some_iff.1 h2).1
      simp at this
      omega
    subst hk2
    rw [List.getElem?_append_right (by omega), hl, Nat.sub_self] at h1
    rw [List.getElem?_append_right (by omega), Nat.sub_self] at h2
    cases h1
    cases h2
    exact hu
theorem OwnV.lx (h : OwnV B w0 W v l us) (hl : l.length ≤ maxLen) (hB : Below w0.heap.size w0 W) : Lx NxC W v l := by
  have hlen := h.row.1
  refine ⟨hl, ?_⟩
  rcases id h.row.2 with ⟨rfl, h0⟩ | ⟨g, cap, cur, rfl, hg, hh, hcap, _, _, _⟩
  · exact ⟨none, 0, by rw [h0], fun k x hx => by
      have := (List.getElem?_eq_some_iff.1 hx).1
      omega⟩
  · refine ⟨some ⟨g, 0, none⟩, cap, rfl, fun k x hx => ?_⟩
    have hk := (List.getElem?_eq_some_iff.1 hx).1
    have hku : k < us.length := by omega
    have hc := h.row.cellAt k (by omega)
    rw [List.getElem?_eq_getElem hku] at hc
    exact ⟨g, 0, us[k], rfl, (Array.getElem?_eq_some_iff.1 hh).1, by rw [Nat.zero_add]; exact hc, grows_nxc _ _ _ _ (h.el k _ x (List.getElem?_eq_getElem hku) hx) hB⟩
end
set_option maxHeartbeats 8000000 in
theorem rops_ok (N : Int) (T : Ex) (hT : EV N T) (R : List Nd) (v : Value) (w : World) (hv : NxC w v (pre T ++ R)) :
    Calls Tryz.prog 47 #[v] w fun e w' => ∃ z, e = .returned z ∧ (∃ us, OwnV w.heap.size w w' z ((kids T).map pre) us) ∧ Below w.heap.size w w' := by
  obtain ⟨i0, hi, hz0, hz1, hz2⟩ := info_parts info_ns
  have IH := fun a (ha : a ∈ kids T) => elen_ok N a (kids_ev hT a ha)
  obtain ⟨h1, h10, har⟩ := kids_ar hT
  have hkl := kids_le T
  rw [pre_kids T] at hv
  obtain ⟨p, c, rfl⟩ := hv.1.cut
  obtain ⟨hnx, p', c', e', hcap, _⟩ := id hv
  simp only [Value.slice.injEq] at e'
  obtain ⟨rfl, _, rfl⟩ := e'
  have hl := hnx.1
  unfold maxLen at hl
  obtain ⟨b, o, hpe, hb, rd⟩ := nd_rd hnx (i := 0) rfl
  subst hpe
  have HR := Lib.hid rd
  have HV := Lib.hid hv
  have HIH := Lib.hid IH
  simp only [List.cons_append, List.length_cons] at hl hcap ⊢
  rw [show (rtN T :: (kids T).flatMap pre ++ R).length = ((kids T).flatMap pre ++ R).length + 1 by simp] at HV
  clear hnx hv IH rd hT
  generalize kids T = l at *
  generalize rtN T = x at *
  obtain ⟨op, n, lo, hi'⟩ := x
  dsimp only at h1 h10 har
  have hacc := fun k => accL_le l k R
  generalize (l.flatMap pre ++ R).length = m at *
  have HA := Lib.hid (fun w => arity7_ok op w h1 h10)
  rw [har] at HA
  have hE : Below w.heap.size w (w.alloc (.cells #[] 23)) := (Below.refl _ _).alloc (Nat.le_refl _) _
  have hO : OwnV w.heap.size w (w.alloc (.cells #[] 23)) (.slice (some ⟨w.heap.size, 0, none⟩) 0 0) ((l.take 0).map pre) [] := ⟨World.ownsRow_made (e := 23) (size := 1) w #[] 0 (Nat.le_refl _) (Nat.zero_le _) rfl, fun k u x h => by simp at h⟩
  have HO0 := Lib.hid hO
  have HE0 := Lib.hid hE
  clear hO hE
  go_enter Tryz.func47, Tryz.ntmps47
  go_wp2_with (fail)
  go_loopw [3, 4, 5] (fun v3 a i wr => ∃ (k : Nat) (us : List Value), i = .int .i64 k ∧ k ≤ l.length ∧ a = .int .i64 (1 + accL l k : Nat) ∧ Hid (OwnV w.heap.size w wr v3 ((l.take k).map pre) us) ∧ Hid (Below w.heap.size w wr)) (fun _ _ i _ => l.length - (intOf i).toNat)
  case atStart => exact ⟨0, [], rfl, Nat.zero_le _, by simp [accL], HO0, HE0⟩
  case round =>
    clear HO0 HE0
    obtain ⟨k, us, rfl, hk, rfl, HO, HB⟩ := hrel
    obtain ⟨d0, _, _, _⟩ := HR.out ⟨wr, HB.out⟩
    dsimp only [Nat.zero_mul, Nat.add_zero] at d0
    simp only [Nat.zero_mul, Nat.add_zero] at d0
    have htl : ((l.take k).map pre).length = k := by rw [List.length_map, List.length_take]; omega
    obtain ⟨p3, c3, rfl⟩ := own_slice HO.out.row
    rw [htl] at HO ⊢
    have hak := hacc k
    have hbs := HB.out.size
    by_cases hlt : k < l.length
    · obtain ⟨a, ha⟩ : ∃ a, l[k]? = some a := ⟨_, List.getElem?_eq_getElem hlt⟩
      have hs := accL_succ ha
      have hak' := hacc (k + 1)
      have hd := nxc_drop (HV.out) (show 1 + accL l k ≤ m + 1 by omega)
      have he : ((⟨op, n, lo, hi'⟩ : Nd) :: l.flatMap pre ++ R).drop (1 + accL l k) = pre a ++ ((l.drop (k + 1)).flatMap pre ++ R) := by
        rw [Nat.add_comm, List.cons_append, List.drop_succ_cons]; exact accL_drop R ha
      have hpa : 1 ≤ (pre a).length := by rw [pre_kids a]; simp
      have hcz : ¬ (c - (1 + accL l k) = 0) := by omega
      rw [he, if_neg hcz] at hd
      have hu := nxc_take hd (m := (pre a).length) (by omega) (by simp)
      rw [List.take_left] at hu
      have hsn : (l.take (k + 1)).map pre = (l.take k).map pre ++ [pre a] := by rw [List.take_add_one, ha, List.map_append]; rfl
      have HSN := Lib.hid hsn
      have HU := Lib.hid hu
      have HD := Lib.hid (grows_nxc _ _ _ _ hd HB.out)
      have HMA := Lib.hid (List.mem_of_getElem? ha)
      clear hd he ha hu hsn
      have hwlt : ((k : Int) < (l.length : Int)) := by omega
      have hsub : 1 + accL l k + (pre a).length - (1 + accL l k) = (pre a).length := by omega
      go_wp2_with (fail)
      refine (HA.out _).mono ?_
      rintro e w' ⟨rfl, rfl⟩
      go_wp2_with (fail)
      refine (HIH.out a HMA.out _ _ _ HD.out).mono ?_
      rintro e w9 ⟨rfl, hB2⟩
      have HO9 := Lib.hid ((HO.out.kept hB2).kept ((Below.refl _ _).alloc (Nat.le_refl _) (.cells #[.slice (some ⟨b, o + (1 + accL l k) * 4, none⟩) (pre a).length (c - (1 + accL l k))] 23)))
      have HB9 := Lib.hid ((below_then HB.out hB2).alloc (below_then HB.out hB2).size (.cells #[.slice (some ⟨b, o + (1 + accL l k) * 4, none⟩) (pre a).length (c - (1 + accL l k))] 23))
      have hz9 := hB2.size
      clear hB2 HD
      go_wp2_with (at_builtin; refine wpList_append_own_at _ rfl (.tmp 21) (.tmp 28) 22 rfl w.heap.size 23 i0 (.slice none 0 0) 1 24 Tryz.underlying22 hi hz0 hz1 hz2 rfl (by decide) (.slice p3 k c3) k _ rfl (by have := HO9.out.row; rw [htl] at this; exact this) ⟨w9.heap.size, 0, none⟩ 1 1 [.slice (some ⟨b, o + (1 + accL l k) * 4, none⟩) (pre a).length (c - (1 + accL l k))] rfl rfl (one_newN _ _ _) (by simp [Value.oneCell']) (by unfold maxLen; omega) (by omega) (by rw [alloc_sz]; omega) ?_)
      intro v' w10 hown hgr _ hat
      obtain ⟨p6, c6, rfl⟩ := own_slice hown
      have hpush := HO9.out.push HU.out (by rw [htl]; exact hown)
      rw [← HSN.out] at hpush
      have hb10 : Below w.heap.size w w10 := Below.grown HB9.out hgr HB9.out.size (fun i hi => (HO9.out.row.lt i hi).1)
      have HP := Lib.hid hpush
      have HB10 := Lib.hid hb10
      clear hown hgr hat hpush hb10 HO9 HB9 HO
      go_wp2_with (fail)
      go_roundw
      case rel => exact ⟨k + 1, _, by go_num, by omega, by go_num, HP, HB10⟩
      case measure => simp [intOf]; omega
    · obtain rfl : k = l.length := by omega
      go_wp2_with (fail)
      refine (HA.out _).mono ?_
      rintro e w' ⟨rfl, rfl⟩
      go_wp2_with (fail)
      go_ret
      have ho := HO.out
      rw [List.take_of_length_le (Nat.le_refl _)] at ho
      exact ⟨_, rfl, ⟨us, ho⟩, HB.out⟩
end Go.Proofs.YtbppfohcicepcaaGreat
namespace Go.Proofs.YtbppfohcicepcaaGreat
open Go.ChangeShapes Go.WideShapes Go.ChangeAt Go.RowKit
set_option linter.unusedVariables false
set_option linter.unusedSimpArgs false
set_option maxRecDepth 100000
open Go.BigFrame
attribute [local go_sem ↓] run_max_two run_min_two run_max_three
set_option maxHeartbeats 4000000 in
theorem r2square (a b : Int) (w : World) (hv : VI a b) :
    Calls Tryz.prog 61 #[.agg #[.int .i64 a, .int .i64 b]] w fun e w' => e = .returned (.agg #[.int .i64 (sqLo a b), .int .i64 (sqHi a b)]) ∧ Below w.heap.size w w' := by
  unfold sqLo sqHi
  by_cases h1 : Ent a b
  · rw [if_pos h1, if_pos h1]
    obtain ⟨rfl, rfl⟩ := h1
    clear hv
    go_enter Tryz.func61, Tryz.ntmps61
    go_wp2_with (fail)
    generalize hW0 : World.alloc (World.alloc w _) _ = W0
    have hT0 : Below w.heap.size w W0 := by subst hW0; exact (((Below.refl w.heap.size w).alloc (by go_size) _).alloc (by go_size) _)
    have S0 : ∀ g : Grown W0, w.heap.size < g.w.heap.size := fun g => Nat.lt_of_lt_of_le (by subst hW0; simp <;> omega) g.h.size
    have Y0 : w.heap.size < W0.heap.size := by subst hW0; simp <;> omega
    have F00 : ∀ g : Grown W0, g.w.cell? ⟨w.heap.size, 0, none⟩ = some (.int .i64 (-2147483648)) := fun g => (g.cell Y0).trans (by subst hW0; simp [go_sem])
    have H00 : ∀ g : Grown W0, g.w.frozen? ⟨w.heap.size, 0, none⟩ = false := fun g => (g.frozen Y0).trans (by subst hW0; simp [go_sem])
    have F01 : ∀ g : Grown W0, g.w.cell? ⟨w.heap.size, 1, none⟩ = some (.int .i64 2147483648) := fun g => (g.cell Y0).trans (by subst hW0; simp [go_sem])
    have H01 : ∀ g : Grown W0, g.w.frozen? ⟨w.heap.size, 1, none⟩ = false := fun g => (g.frozen Y0).trans (by subst hW0; simp [go_sem])
    clear Y0
    have S1 : ∀ g : Grown W0, w.heap.size + 1 < g.w.heap.size := fun g => Nat.lt_of_lt_of_le (by subst hW0; simp <;> omega) g.h.size
    have Y1 : w.heap.size + 1 < W0.heap.size := by subst hW0; simp <;> omega
    have F10 : ∀ g : Grown W0, g.w.cell? ⟨w.heap.size + 1, 0, none⟩ = some (.int .i64 0) := fun g => (g.cell Y1).trans (by subst hW0; simp [go_sem])
    have H10 : ∀ g : Grown W0, g.w.frozen? ⟨w.heap.size + 1, 0, none⟩ = false := fun g => (g.frozen Y1).trans (by subst hW0; simp [go_sem])
    have F11 : ∀ g : Grown W0, g.w.cell? ⟨w.heap.size + 1, 1, none⟩ = some (.int .i64 0) := fun g => (g.cell Y1).trans (by subst hW0; simp [go_sem])
    have H11 : ∀ g : Grown W0, g.w.frozen? ⟨w.heap.size + 1, 1, none⟩ = false := fun g => (g.frozen Y1).trans (by subst hW0; simp [go_sem])
    clear Y1
    clear hW0
    obtain ⟨g0, hg0⟩ : ∃ g : Grown W0, W0 = g.w := ⟨⟨W0, Below.refl _ _⟩, rfl⟩
    rw [hg0]
    clear hg0
    refine (r2ent_yes _).mono ?_
    rintro e1 w1 ⟨rfl, hB1⟩
    obtain ⟨g1, rfl⟩ := grow g0 hB1
    clear hB1
    go_wp2_with (fail)
    refine (r2entire _).mono ?_
    rintro e2 w2 ⟨rfl, hB2⟩
    obtain ⟨g2, rfl⟩ := grow g1 hB2
    clear hB2
    go_wp2_with (fail)
    have hB : Below w.heap.size w g2.w := below_then hT0 g2.h
    refine bodyPost_ret (v := .agg #[.int .i64 (-2147483648), .int .i64 2147483648]) (by simp [results, Tryz.results61, go_sem, F10, F11]) rfl ⟨rfl, ?_⟩
    go_grown
  · rw [if_neg h1, if_neg h1]
    have h1' := Lib.hid h1
    obtain ⟨ha1, ha2, hb1, hb2, hab⟩ := hv.bd
    have e1 := mul_bound a a 2147483648 2147483648 (by omega) (by omega) (by omega) (by omega)
    have e2 := mul_bound b b 2147483648 2147483648 (by omega) (by omega) (by omega) (by omega)
    have f1 : -4611686018427387904 ≤ a * a := by omega
    have f2 : a * a ≤ 4611686018427387904 := by omega
    have f3 : -4611686018427387904 ≤ b * b := by omega
    have f4 : b * b ≤ 4611686018427387904 := by omega
    have hw := dn_within (n := -max (a * a) (b * b)) (d := 65536) (B := 4611686018427387904) (by omega) (by omega) (by omega) (by omega)
    have c2 := fun w => r2ceil (max (a * a) (b * b)) 65536 w (by omega) (by omega) (by omega) (by omega)
    have c3 := fun w => r2new (dn (sq1 a b) 65536) (up (sq2 a b) 65536) w
    unfold sq1 sq2 at *
    by_cases hc : a ≤ 0 ∧ 0 ≤ b
    · rw [if_pos hc] at c3 ⊢
      have c1 := fun w => r2floor 0 65536 w (by omega) (by omega) (by omega)
      obtain ⟨hc1, hc2⟩ := hc
      clear h1 hv e1 e2 hw
      generalize mkLo _ _ = x at *
      generalize mkHi _ _ = y at *
      generalize up (max (a * a) (b * b)) 65536 = m2 at *
      generalize dn 0 65536 = m1 at *
      go_enter Tryz.func61, Tryz.ntmps61
      go_wp2_with (fail)
      generalize hW0 : World.alloc (World.alloc w _) _ = W0
      have hT0 : Below w.heap.size w W0 := by subst hW0; exact (((Below.refl w.heap.size w).alloc (by go_size) _).alloc (by go_size) _)
      have S0 : ∀ g : Grown W0, w.heap.size < g.w.heap.size := fun g => Nat.lt_of_lt_of_le (by subst hW0; simp <;> omega) g.h.size
      have Y0 : w.heap.size < W0.heap.size := by subst hW0; simp <;> omega
      have F00 : ∀ g : Grown W0, g.w.cell? ⟨w.heap.size, 0, none⟩ = some (.int .i64 a) := fun g => (g.cell Y0).trans (by subst hW0; simp [go_sem])
      have H00 : ∀ g : Grown W0, g.w.frozen? ⟨w.heap.size, 0, none⟩ = false := fun g => (g.frozen Y0).trans (by subst hW0; simp [go_sem])
      have F01 : ∀ g : Grown W0, g.w.cell? ⟨w.heap.size, 1, none⟩ = some (.int .i64 b) := fun g => (g.cell Y0).trans (by subst hW0; simp [go_sem])
      have H01 : ∀ g : Grown W0, g.w.frozen? ⟨w.heap.size, 1, none⟩ = false := fun g => (g.frozen Y0).trans (by subst hW0; simp [go_sem])
      clear Y0
      have S1 : ∀ g : Grown W0, w.heap.size + 1 < g.w.heap.size := fun g => Nat.lt_of_lt_of_le (by subst hW0; simp <;> omega) g.h.size
      have Y1 : w.heap.size + 1 < W0.heap.size := by subst hW0; simp <;> omega
      have F10 : ∀ g : Grown W0, g.w.cell? ⟨w.heap.size + 1, 0, none⟩ = some (.int .i64 0) := fun g => (g.cell Y1).trans (by subst hW0; simp [go_sem])
      have H10 : ∀ g : Grown W0, g.w.frozen? ⟨w.heap.size + 1, 0, none⟩ = false := fun g => (g.frozen Y1).trans (by subst hW0; simp [go_sem])
      have F11 : ∀ g : Grown W0, g.w.cell? ⟨w.heap.size + 1, 1, none⟩ = some (.int .i64 0) := fun g => (g.cell Y1).trans (by subst hW0; simp [go_sem])
      have H11 : ∀ g : Grown W0, g.w.frozen? ⟨w.heap.size + 1, 1, none⟩ = false := fun g => (g.frozen Y1).trans (by subst hW0; simp [go_sem])
      clear Y1
      clear hW0
      obtain ⟨g0, hg0⟩ : ∃ g : Grown W0, W0 = g.w := ⟨⟨W0, Below.refl _ _⟩, rfl⟩
      rw [hg0]
      clear hg0
      refine (r2ent_no a b _ h1'.out).mono ?_
      rintro e1 w1 ⟨rfl, hB1⟩
      obtain ⟨g1, rfl⟩ := grow g0 hB1
      clear hB1
      go_wp2_with (fail)
      refine region_quiet' g1 (by kernel_rfl) (by kernel_rfl) ?_
      repeat (go_big_quiet_step (fail))
      refine wpQuiet_nil ?_
      rintro _ ⟨g2, rfl⟩
      go_wp2_with (fail)
      refine (c1 _).mono ?_
      rintro e3 w3 ⟨rfl, rfl⟩
      go_wp2_with (fail)
      refine (c2 _).mono ?_
      rintro e4 w4 ⟨rfl, rfl⟩
      go_wp2_with (fail)
      refine (c3 _).mono ?_
      rintro e5 w5 ⟨rfl, hB5⟩
      obtain ⟨g5, rfl⟩ := grow g2 hB5
      clear hB5
      go_wp2_with (fail)
      have hB : Below w.heap.size w g5.w := below_then hT0 g5.h
      refine bodyPost_ret (v := .agg #[.int .i64 x, .int .i64 y]) (by simp [results, Tryz.results61, go_sem, F10, F11]) rfl ⟨rfl, ?_⟩
      go_grown
    · rw [if_neg hc] at c3 ⊢
      have c1 := fun w => r2floor (min (a * a) (b * b)) 65536 w (by omega) (by omega) (by omega)
      clear h1 hv e1 e2 hw
      generalize mkLo _ _ = x at *
      generalize mkHi _ _ = y at *
      generalize up (max (a * a) (b * b)) 65536 = m2 at *
      generalize dn (min (a * a) (b * b)) 65536 = m1 at *
      by_cases hc1 : a ≤ 0
      · have hc2 : b < 0 := by omega
        clear hc
        go_enter Tryz.func61, Tryz.ntmps61
        go_wp2_with (fail)
        generalize hW0 : World.alloc (World.alloc w _) _ = W0
        have hT0 : Below w.heap.size w W0 := by subst hW0; exact (((Below.refl w.heap.size w).alloc (by go_size) _).alloc (by go_size) _)
        have S0 : ∀ g : Grown W0, w.heap.size < g.w.heap.size := fun g => Nat.lt_of_lt_of_le (by subst hW0; simp <;> omega) g.h.size
        have Y0 : w.heap.size < W0.heap.size := by subst hW0; simp <;> omega
        have F00 : ∀ g : Grown W0, g.w.cell? ⟨w.heap.size, 0, none⟩ = some (.int .i64 a) := fun g => (g.cell Y0).trans (by subst hW0; simp [go_sem])
        have H00 : ∀ g : Grown W0, g.w.frozen? ⟨w.heap.size, 0, none⟩ = false := fun g => (g.frozen Y0).trans (by subst hW0; simp [go_sem])
        have F01 : ∀ g : Grown W0, g.w.cell? ⟨w.heap.size, 1, none⟩ = some (.int .i64 b) := fun g => (g.cell Y0).trans (by subst hW0; simp [go_sem])
        have H01 : ∀ g : Grown W0, g.w.frozen? ⟨w.heap.size, 1, none⟩ = false := fun g => (g.frozen Y0).trans (by subst hW0; simp [go_sem])
        clear Y0
        have S1 : ∀ g : Grown W0, w.heap.size + 1 < g.w.heap.size := fun g => Nat.lt_of_lt_of_le (by subst hW0; simp <;> omega) g.h.size
        have Y1 : w.heap.size + 1 < W0.heap.size := by subst hW0; simp <;> omega
        have F10 : ∀ g : Grown W0, g.w.cell? ⟨w.heap.size + 1, 0, none⟩ = some (.int .i64 0) := fun g => (g.cell Y1).trans (by subst hW0; simp [go_sem])
        have H10 : ∀ g : Grown W0, g.w.frozen? ⟨w.heap.size + 1, 0, none⟩ = false := fun g => (g.frozen Y1).trans (by subst hW0; simp [go_sem])
        have F11 : ∀ g : Grown W0, g.w.cell? ⟨w.heap.size + 1, 1, none⟩ = some (.int .i64 0) := fun g => (g.cell Y1).trans (by subst hW0; simp [go_sem])
        have H11 : ∀ g : Grown W0, g.w.frozen? ⟨w.heap.size + 1, 1, none⟩ = false := fun g => (g.frozen Y1).trans (by subst hW0; simp [go_sem])
        clear Y1
        clear hW0
        obtain ⟨g0, hg0⟩ : ∃ g : Grown W0, W0 = g.w := ⟨⟨W0, Below.refl _ _⟩, rfl⟩
        rw [hg0]
        clear hg0
        refine (r2ent_no a b _ h1'.out).mono ?_
        rintro e1 w1 ⟨rfl, hB1⟩
        obtain ⟨g1, rfl⟩ := grow g0 hB1
        clear hB1
        go_wp2_with (fail)
        refine region_quiet' g1 (by kernel_rfl) (by kernel_rfl) ?_
        repeat (go_big_quiet_step (fail))
        refine wpQuiet_nil ?_
        rintro _ ⟨g2, rfl⟩
        go_wp2_with (fail)
        refine (c1 _).mono ?_
        rintro e3 w3 ⟨rfl, rfl⟩
        go_wp2_with (fail)
        refine (c2 _).mono ?_
        rintro e4 w4 ⟨rfl, rfl⟩
        go_wp2_with (fail)
        refine (c3 _).mono ?_
        rintro e5 w5 ⟨rfl, hB5⟩
        obtain ⟨g5, rfl⟩ := grow g2 hB5
        clear hB5
        go_wp2_with (fail)
        have hB : Below w.heap.size w g5.w := below_then hT0 g5.h
        refine bodyPost_ret (v := .agg #[.int .i64 x, .int .i64 y]) (by simp [results, Tryz.results61, go_sem, F10, F11]) rfl ⟨rfl, ?_⟩
        go_grown
      · have hc2 : 0 < a := by omega
        clear hc hc1
        go_enter Tryz.func61, Tryz.ntmps61
        go_wp2_with (fail)
        generalize hW0 : World.alloc (World.alloc w _) _ = W0
        have hT0 : Below w.heap.size w W0 := by subst hW0; exact (((Below.refl w.heap.size w).alloc (by go_size) _).alloc (by go_size) _)
        have S0 : ∀ g : Grown W0, w.heap.size < g.w.heap.size := fun g => Nat.lt_of_lt_of_le (by subst hW0; simp <;> omega) g.h.size
        have Y0 : w.heap.size < W0.heap.size := by subst hW0; simp <;> omega
        have F00 : ∀ g : Grown W0, g.w.cell? ⟨w.heap.size, 0, none⟩ = some (.int .i64 a) := fun g => (g.cell Y0).trans (by subst hW0; simp [go_sem])
        have H00 : ∀ g : Grown W0, g.w.frozen? ⟨w.heap.size, 0, none⟩ = false := fun g => (g.frozen Y0).trans (by subst hW0; simp [go_sem])
        have F01 : ∀ g : Grown W0, g.w.cell? ⟨w.heap.size, 1, none⟩ = some (.int .i64 b) := fun g => (g.cell Y0).trans (by subst hW0; simp [go_sem])
        have H01 : ∀ g : Grown W0, g.w.frozen? ⟨w.heap.size, 1, none⟩ = false := fun g => (g.frozen Y0).trans (by subst hW0; simp [go_sem])
        clear Y0
        have S1 : ∀ g : Grown W0, w.heap.size + 1 < g.w.heap.size := fun g => Nat.lt_of_lt_of_le (by subst hW0; simp <;> omega) g.h.size
        have Y1 : w.heap.size + 1 < W0.heap.size := by subst hW0; simp <;> omega
        have F10 : ∀ g : Grown W0, g.w.cell? ⟨w.heap.size + 1, 0, none⟩ = some (.int .i64 0) := fun g => (g.cell Y1).trans (by subst hW0; simp [go_sem])
        have H10 : ∀ g : Grown W0, g.w.frozen? ⟨w.heap.size + 1, 0, none⟩ = false := fun g => (g.frozen Y1).trans (by subst hW0; simp [go_sem])
        have F11 : ∀ g : Grown W0, g.w.cell? ⟨w.heap.size + 1, 1, none⟩ = some (.int .i64 0) := fun g => (g.cell Y1).trans (by subst hW0; simp [go_sem])
        have H11 : ∀ g : Grown W0, g.w.frozen? ⟨w.heap.size + 1, 1, none⟩ = false := fun g => (g.frozen Y1).trans (by subst hW0; simp [go_sem])
        clear Y1
        clear hW0
        obtain ⟨g0, hg0⟩ : ∃ g : Grown W0, W0 = g.w := ⟨⟨W0, Below.refl _ _⟩, rfl⟩
        rw [hg0]
        clear hg0
        refine (r2ent_no a b _ h1'.out).mono ?_
        rintro e1 w1 ⟨rfl, hB1⟩
        obtain ⟨g1, rfl⟩ := grow g0 hB1
        clear hB1
        go_wp2_with (fail)
        refine region_quiet' g1 (by kernel_rfl) (by kernel_rfl) ?_
        repeat (go_big_quiet_step (fail))
        refine wpQuiet_nil ?_
        rintro _ ⟨g2, rfl⟩
        go_wp2_with (fail)
        refine (c1 _).mono ?_
        rintro e3 w3 ⟨rfl, rfl⟩
        go_wp2_with (fail)
        refine (c2 _).mono ?_
        rintro e4 w4 ⟨rfl, rfl⟩
        go_wp2_with (fail)
        refine (c3 _).mono ?_
        rintro e5 w5 ⟨rfl, hB5⟩
        obtain ⟨g5, rfl⟩ := grow g2 hB5
        clear hB5
        go_wp2_with (fail)
        have hB : Below w.heap.size w g5.w := below_then hT0 g5.h
        refine bodyPost_ret (v := .agg #[.int .i64 x, .int .i64 y]) (by simp [results, Tryz.results61, go_sem, F10, F11]) rfl ⟨rfl, ?_⟩
        go_grown

end Go.Proofs.YtbppfohcicepcaaGreat
namespace Go.Proofs.YtbppfohcicepcaaGreat
open Go.ChangeShapes Go.WideShapes Go.ChangeAt Go.RowKit
set_option linter.unusedVariables false
set_option linter.unusedSimpArgs false
set_option maxRecDepth 100000
/-- What is known of the root when 'bit' comes up. -/
def RtI (s out bit : Int) : Prop := 0 ≤ out ∧ out ≤ s ∧ ((bit = 0 ∧ s < out + 1) ∨ ∃ k : Nat, bit = 2 ^ k ∧ s < out + 2 * bit) ∧ out + 2 * bit ≤ 2147483648
theorem pow_pos2 (k : Nat) : (1 : Int) ≤ 2 ^ k := by
  induction k with
  | zero => decide
  | succ k ih => rw [Int.pow_succ]; omega
theorem rti_half {s out out' bit : Int} (h : RtI s out bit) (hb : 0 < bit) (h1 : out' = out ∧ s < out + bit ∨ out' = out + bit ∧ out + bit ≤ s) : RtI s out' (bit / 2) := by
  obtain ⟨p1, p2, p3, p4⟩ := h
  rcases p3 with ⟨p3, _⟩ | ⟨k, p3, p5⟩
  · omega
  · refine ⟨by omega, by omega, ?_, by omega⟩
    cases k with
    | zero =>
      have : bit = 1 := p3
      exact .inl ⟨by omega, by omega⟩
    | succ k =>
      rw [Int.pow_succ] at p3
      exact .inr ⟨k, by omega, by omega⟩

set_option maxHeartbeats 1000000 in
theorem r2root (n : Int) (w : World) (h0 : 0 ≤ n) (h1 : n < 4611686018427387904) :
    Calls Tryz.prog 94 #[.int .i64 n] w fun e w' => e = .returned (.int .i64 (isq n)) ∧ w = w' := by
  have hs : isq n < 2147483648 := isq_lt (n := n) (q := 2147483648) (by omega) (by omega) (by omega)
  have hs0 := (isq_spec (n := n) (by omega)).1
  have hstep : ∀ m, 0 ≤ m → ¬ m * m ≤ n → isq n < m := fun m hm hc => isq_lt h0 (by omega) hm
  have hle2 : ∀ m, m * m ≤ n → m ≤ isq n := fun m hm => le_isq (by omega) hm
  generalize isq n = s at *
  have H1 := Lib.hid hstep
  have H2 := Lib.hid hle2
  clear hstep hle2
  go_enter Tryz.func94, Tryz.ntmps94
  go_wp2
  go_loop [3, 4] (fun o b => ∃ out bit : Int, o = .int .i64 out ∧ b = .int .i64 bit ∧ RtI s out bit) (fun o b => (intOf b).toNat)
  case atStart => exact ⟨_, _, rfl, rfl, by omega, by omega, .inr ⟨30, by decide, by omega⟩, by omega⟩
  case round =>
    obtain ⟨out, bit, rfl, rfl, r⟩ := hrel
    have r1 := r.1
    have r4 := r.2.2.2
    have R := Lib.hid r
    by_cases hb : 0 < bit
    · have m0 : 0 ≤ out + bit := by omega
      have m1 : out + bit ≤ 2147483648 := by omega
      have mm := sq_le m0 m1
      have mm0 := Int.mul_nonneg m0 m0
      clear r
      by_cases hc : (out + bit) * (out + bit) ≤ n
      · have K := Lib.hid (rti_half R.out hb (.inr ⟨rfl, H2.out _ hc⟩))
        go_wp2
        go_round
        case rel => exact ⟨_, _, rfl, rfl, K.out⟩
        case measure => simp [intOf]; omega
      · have K := Lib.hid (rti_half R.out hb (.inl ⟨rfl, H1.out _ m0 (by omega)⟩))
        go_wp2
        go_round
        case rel => exact ⟨_, _, rfl, rfl, K.out⟩
        case measure => simp [intOf]; omega
    · obtain ⟨q1, q2, q3, q4⟩ := r
      have e : out = s := by
        rcases q3 with ⟨_, q3⟩ | ⟨k, q3, _⟩
        · omega
        · have := pow_pos2 k; omega
      subst e
      clear q3 R
      go_wp2
      go_ret
      exact ⟨rfl, rfl⟩
end Go.Proofs.YtbppfohcicepcaaGreat
namespace Go.Proofs.YtbppfohcicepcaaGreat
open Go.ChangeShapes Go.WideShapes Go.ChangeAt Go.RowKit
set_option linter.unusedVariables false
set_option linter.unusedSimpArgs false
set_option maxRecDepth 100000
open Go.BigFrame
attribute [local go_sem ↓] run_max_two run_min_two run_max_three
theorem sq_nonneg' (x : Int) : 0 ≤ x * x := by
  by_cases h : 0 ≤ x
  · exact Int.mul_nonneg h h
  · have := Int.mul_nonneg (show 0 ≤ -x by omega) (show 0 ≤ -x by omega)
    rwa [Int.neg_mul_neg] at this

set_option maxHeartbeats 4000000 in
theorem r2sqrt_pos (a b : Int) (w : World) (h1 : ¬ Ent a b) (hab : a ≤ b) (hb : 0 ≤ b) (hb2 : b ≤ 2147483648) :
    Calls Tryz.prog 62 #[.agg #[.int .i64 a, .int .i64 b]] w fun e w' => e = .returned (.tuple #[.agg #[.int .i64 (mkLo (rt1 a) (rt2 b)), .int .i64 (mkHi (rt1 a) (rt2 b))], .bool true]) ∧ Below w.heap.size w w' := by
  have h1' := Lib.hid h1
  clear h1
  have c1 := fun w => r2root (max a 0 * 65536) w (by omega) (by omega)
  have c2 := fun w => r2root (b * 65536) w (by omega) (by omega)
  have s1 := isq_spec (n := b * 65536) (by omega)
  have s2 := isq_lt (n := b * 65536) (q := 16777216) (by omega) (by omega) (by omega)
  have s3 := sq_le s1.1 (show isq (b * 65536) ≤ 16777216 by omega)
  have s4 := sq_nonneg' (isq (b * 65536))
  have t1 := s1.1
  have t2 := s1.2.1
  clear s1
  unfold rt1 rt2 usq
  by_cases hc : isq (b * 65536) * isq (b * 65536) = b * 65536
  · rw [if_pos hc]
    have c3 := fun w => r2new (isq (max a 0 * 65536)) (isq (b * 65536)) w
    have hc' : decide (isq (b * 65536) * isq (b * 65536) < b * 65536) = false := decide_eq_false (by omega)
    clear hc
    generalize mkLo _ _ = x at *
    generalize mkHi _ _ = y at *
    generalize isq (max a 0 * 65536) = m1 at *
    generalize isq (b * 65536) = m2 at *
    go_enter Tryz.func62, Tryz.ntmps62
    go_wp2_with (fail)
    generalize hW0 : World.alloc (World.alloc w _) _ = W0
    have hT0 : Below w.heap.size w W0 := by subst hW0; exact (((Below.refl w.heap.size w).alloc (by go_size) _).alloc (by go_size) _)
    have S0 : ∀ g : Grown W0, w.heap.size < g.w.heap.size := fun g => Nat.lt_of_lt_of_le (by subst hW0; simp <;> omega) g.h.size
    have Y0 : w.heap.size < W0.heap.size := by subst hW0; simp <;> omega
    have F00 : ∀ g : Grown W0, g.w.cell? ⟨w.heap.size, 0, none⟩ = some (.int .i64 a) := fun g => (g.cell Y0).trans (by subst hW0; simp [go_sem])
    have H00 : ∀ g : Grown W0, g.w.frozen? ⟨w.heap.size, 0, none⟩ = false := fun g => (g.frozen Y0).trans (by subst hW0; simp [go_sem])
    have F01 : ∀ g : Grown W0, g.w.cell? ⟨w.heap.size, 1, none⟩ = some (.int .i64 b) := fun g => (g.cell Y0).trans (by subst hW0; simp [go_sem])
    have H01 : ∀ g : Grown W0, g.w.frozen? ⟨w.heap.size, 1, none⟩ = false := fun g => (g.frozen Y0).trans (by subst hW0; simp [go_sem])
    clear Y0
    have S1 : ∀ g : Grown W0, w.heap.size + 1 < g.w.heap.size := fun g => Nat.lt_of_lt_of_le (by subst hW0; simp <;> omega) g.h.size
    have Y1 : w.heap.size + 1 < W0.heap.size := by subst hW0; simp <;> omega
    have F10 : ∀ g : Grown W0, g.w.cell? ⟨w.heap.size + 1, 0, none⟩ = some (.int .i64 0) := fun g => (g.cell Y1).trans (by subst hW0; simp [go_sem])
    have H10 : ∀ g : Grown W0, g.w.frozen? ⟨w.heap.size + 1, 0, none⟩ = false := fun g => (g.frozen Y1).trans (by subst hW0; simp [go_sem])
    have F11 : ∀ g : Grown W0, g.w.cell? ⟨w.heap.size + 1, 1, none⟩ = some (.int .i64 0) := fun g => (g.cell Y1).trans (by subst hW0; simp [go_sem])
    have H11 : ∀ g : Grown W0, g.w.frozen? ⟨w.heap.size + 1, 1, none⟩ = false := fun g => (g.frozen Y1).trans (by subst hW0; simp [go_sem])
    clear Y1
    clear hW0
    obtain ⟨g0, hg0⟩ : ∃ g : Grown W0, W0 = g.w := ⟨⟨W0, Below.refl _ _⟩, rfl⟩
    rw [hg0]
    clear hg0
    refine (r2ent_no a b _ h1'.out).mono ?_
    rintro e1 w1 ⟨rfl, hB1⟩
    obtain ⟨g1, rfl⟩ := grow g0 hB1
    clear hB1
    go_wp2_with (fail)
    refine region_quiet' g1 (by kernel_rfl) (by kernel_rfl) ?_
    repeat (go_big_quiet_step (first | (go_at_call_of 94 a; exact qs (c1 _)) | (go_at_call 94; exact qs (c2 _))))
    refine wpQuiet_nil ?_
    rintro _ ⟨g2, rfl⟩
    go_wp2_with (fail)
    refine (c3 _).mono ?_
    rintro e3 w3 ⟨rfl, hB3⟩
    obtain ⟨g3, rfl⟩ := grow g2 hB3
    clear hB3
    go_wp2_with (fail)
    have hB : Below w.heap.size w g3.w := below_then hT0 g3.h
    refine bodyPost_ret (v := .tuple #[.agg #[.int .i64 x, .int .i64 y], .bool true]) (by simp [results, Tryz.results62, go_sem, F10, F11]) rfl ⟨rfl, ?_⟩
    go_grown
  · rw [if_neg hc]
    have c3 := fun w => r2new (isq (max a 0 * 65536)) (isq (b * 65536) + 1) w
    have hc' : isq (b * 65536) * isq (b * 65536) < b * 65536 := by omega
    clear hc
    generalize mkLo _ _ = x at *
    generalize mkHi _ _ = y at *
    generalize isq (max a 0 * 65536) = m1 at *
    generalize isq (b * 65536) = m2 at *
    go_enter Tryz.func62, Tryz.ntmps62
    go_wp2_with (fail)
    generalize hW0 : World.alloc (World.alloc w _) _ = W0
    have hT0 : Below w.heap.size w W0 := by subst hW0; exact (((Below.refl w.heap.size w).alloc (by go_size) _).alloc (by go_size) _)
    have S0 : ∀ g : Grown W0, w.heap.size < g.w.heap.size := fun g => Nat.lt_of_lt_of_le (by subst hW0; simp <;> omega) g.h.size
    have Y0 : w.heap.size < W0.heap.size := by subst hW0; simp <;> omega
    have F00 : ∀ g : Grown W0, g.w.cell? ⟨w.heap.size, 0, none⟩ = some (.int .i64 a) := fun g => (g.cell Y0).trans (by subst hW0; simp [go_sem])
    have H00 : ∀ g : Grown W0, g.w.frozen? ⟨w.heap.size, 0, none⟩ = false := fun g => (g.frozen Y0).trans (by subst hW0; simp [go_sem])
    have F01 : ∀ g : Grown W0, g.w.cell? ⟨w.heap.size, 1, none⟩ = some (.int .i64 b) := fun g => (g.cell Y0).trans (by subst hW0; simp [go_sem])
    have H01 : ∀ g : Grown W0, g.w.frozen? ⟨w.heap.size, 1, none⟩ = false := fun g => (g.frozen Y0).trans (by subst hW0; simp [go_sem])
    clear Y0
    have S1 : ∀ g : Grown W0, w.heap.size + 1 < g.w.heap.size := fun g => Nat.lt_of_lt_of_le (by subst hW0; simp <;> omega) g.h.size
    have Y1 : w.heap.size + 1 < W0.heap.size := by subst hW0; simp <;> omega
    have F10 : ∀ g : Grown W0, g.w.cell? ⟨w.heap.size + 1, 0, none⟩ = some (.int .i64 0) := fun g => (g.cell Y1).trans (by subst hW0; simp [go_sem])
    have H10 : ∀ g : Grown W0, g.w.frozen? ⟨w.heap.size + 1, 0, none⟩ = false := fun g => (g.frozen Y1).trans (by subst hW0; simp [go_sem])
    have F11 : ∀ g : Grown W0, g.w.cell? ⟨w.heap.size + 1, 1, none⟩ = some (.int .i64 0) := fun g => (g.cell Y1).trans (by subst hW0; simp [go_sem])
    have H11 : ∀ g : Grown W0, g.w.frozen? ⟨w.heap.size + 1, 1, none⟩ = false := fun g => (g.frozen Y1).trans (by subst hW0; simp [go_sem])
    clear Y1
    clear hW0
    obtain ⟨g0, hg0⟩ : ∃ g : Grown W0, W0 = g.w := ⟨⟨W0, Below.refl _ _⟩, rfl⟩
    rw [hg0]
    clear hg0
    refine (r2ent_no a b _ h1'.out).mono ?_
    rintro e1 w1 ⟨rfl, hB1⟩
    obtain ⟨g1, rfl⟩ := grow g0 hB1
    clear hB1
    go_wp2_with (fail)
    refine region_quiet' g1 (by kernel_rfl) (by kernel_rfl) ?_
    repeat (go_big_quiet_step (first | (go_at_call_of 94 a; exact qs (c1 _)) | (go_at_call 94; exact qs (c2 _))))
    refine wpQuiet_nil ?_
    rintro _ ⟨g2, rfl⟩
    go_wp2_with (fail)
    refine (c3 _).mono ?_
    rintro e3 w3 ⟨rfl, hB3⟩
    obtain ⟨g3, rfl⟩ := grow g2 hB3
    clear hB3
    go_wp2_with (fail)
    have hB : Below w.heap.size w g3.w := below_then hT0 g3.h
    refine bodyPost_ret (v := .tuple #[.agg #[.int .i64 x, .int .i64 y], .bool true]) (by simp [results, Tryz.results62, go_sem, F10, F11]) rfl ⟨rfl, ?_⟩
    go_grown
end Go.Proofs.YtbppfohcicepcaaGreat
