/-
  The reference's eliminate.
  The reference's Inverse: the same as the program's.
-/
import Derived.Test.YtmcdkbnpcmiojaaGreatRefC
import Derived.Test.YtmcdkbnpcmiojaaGreatR7
import Derived.Test.YtmcdkbnpcmiojaaGreatIv4
import Derived.Test.YtmcdkbnpcmiojaaGreatRefB
import Derived.Maps.AppendAt
namespace Go.Proofs.YtmcdkbnpcmiojaaGreat
open Go.ChangeShapes Go.WideShapes Go.ChangeAt Go.RowKit
set_option linter.unusedVariables false
set_option linter.unusedSimpArgs false
set_option maxRecDepth 100000

attribute [local irreducible] Calls
theorem bx_at {w : World} {b o n c j : Nat} {l : List (Int × Int)} {x y : Int} (h : Bx w (.slice (some ⟨b, o, none⟩) n c) l) (hx : l[j]? = some (x, y)) : b < w.heap.size ∧ ∀ g : Grown w, g.w.cell? ⟨b, o + j * 2, none⟩ = some (.int .i64 x) ∧ g.w.cell? ⟨b, o + j * 2 + 1, none⟩ = some (.int .i64 y) := by
  obtain ⟨b', o', e, h1, rd⟩ := h.rd2 hx
  simp only [Option.some.injEq, Addr.mk.injEq, and_true] at e
  obtain ⟨rfl, rfl⟩ := e
  exact ⟨h1, fun g => ⟨(rd g).2.1, (rd g).2.2⟩⟩
theorem mx_at {w : World} {p : Option Addr} {n c i m : Nat} {M : List (List (Int × Int))} {r : List (Int × Int)} (h : Mx w (.slice p n c) M) (hr : M[i]? = some r) (hl : r.length = m) (h0 : 0 < m) : ∃ bO oO b o cc, p = some ⟨bO, oO, none⟩ ∧ bO < w.heap.size ∧ (∀ g : Grown w, g.w.cell? ⟨bO, oO + i, none⟩ = some (.slice (some ⟨b, o, none⟩) m cc)) ∧ Bx w (.slice (some ⟨b, o, none⟩) m cc) r := by
  obtain ⟨b, o, u, hp, hb, rd⟩ := h.rd grows_bx hr
  subst hp
  have hbx := (rd ⟨w, Below.refl _ _⟩).2.2
  dsimp only at hbx
  obtain ⟨p2, c2, rfl⟩ := hbx.shape hl
  obtain ⟨x, hx⟩ : ∃ x, r[0]? = some x := ⟨_, List.getElem?_eq_getElem (by omega)⟩
  obtain ⟨b2, o2, rfl, _, _⟩ := hbx.rd2 (x := x.1) (y := x.2) hx
  exact ⟨b, o, b2, o2, c2, rfl, hb, fun g => (rd g).2.1, hbx⟩
theorem own_keep {B : Nat} {w w' : World} {O n c m R c' : Nat} {us rs : List Value} (ho : w.ownsRow B 22 1 (.slice (some ⟨O, 0, none⟩) n c) n us) (k : w.ownsRow B 48 2 (.slice (some ⟨R, 0, none⟩) m c') m rs) (hg : w.grownBy w' (some O)) : w'.ownsRow B 48 2 (.slice (some ⟨R, 0, none⟩) m c') m rs :=
  k.kept hg (.inr (by
    intro q
    simp only [Value.ownBlock, Option.some.injEq] at q
    subst q
    exact absurd (own_type ho k) (by decide)))
theorem out0_kept {B : Nat} {w w' : World} {O c0 g n c : Nat} {xs : List Value} (h : OwnM B w (.slice (some ⟨O, 0, none⟩) 0 c0) [] []) (k : w.ownsRow B 48 2 (.slice (some ⟨g, 0, none⟩) n c) n xs) (hg : w.grownBy w' (some g)) : OwnM B w' (.slice (some ⟨O, 0, none⟩) 0 c0) [] [] :=
  ⟨h.out.kept hg (.inr (by
    intro q
    simp only [Value.ownBlock, Option.some.injEq] at q
    subst q
    exact absurd (own_type h.out k) (by decide))), fun i r h => by simp at h, fun i j R n c n' c' h => by simp at h⟩
theorem own_mono {B B' : Nat} {w : World} {t : TypeId} {s R m c : Nat} {xs : List Value} (h : w.ownsRow B' t s (.slice (some ⟨R, 0, none⟩) m c) m xs) (hb : B ≤ B') : w.ownsRow B t s (.slice (some ⟨R, 0, none⟩) m c) m xs := by
  rcases h.2 with ⟨e, e2⟩ | ⟨g, cap, cur, e, hg, r⟩
  · exact ⟨h.1, .inl ⟨e, e2⟩⟩
  · exact ⟨h.1, .inr ⟨g, cap, cur, e, Nat.le_trans hb hg, r⟩⟩
theorem far_new {B R1 : Nat} {w : World} {v : Value} {us : List Value} {M : List (List (Int × Int))} (h : OwnM B w v us M) (hR : w.heap.size ≤ R1) : ∀ (i R' n' c' : Nat), us[i]? = some (Value.slice (some ⟨R', 0, none⟩) n' c') → R' ≠ R1 := fun i R' n' c' hi => by
  have hil : i < M.length := by
    have a := h.out.1
    have b := (List.getElem?_eq_some_iff.1 hi).1
    omega
  obtain ⟨O', R1', c'', c1, hv, hu, h1, h2, h3, h4, _⟩ := h.at (List.getElem?_eq_getElem hil)
  obtain ⟨e, _⟩ := own_slot hu hi
  omega
theorem own_fits {B : Nat} {w : World} {O a c : Nat} {us : List Value} {M : List (List (Int × Int))} (h : OwnM B w (.slice (some ⟨O, 0, none⟩) a c) us M) : w.ownsRow B 22 1 (.slice (some ⟨O, 0, none⟩) a c) M.length us := h.out
section
variable (wr : World) (bO oO bK oK g cap c cK n N k : Nat) (m : List (Int × Int)) (x y px py q1 q2 : Int)
def phiE1 : Tmp → Value → World → Prop := lk [(22, fun u _ => u = .slice (some ⟨g, 0, none⟩) m.length cap), (23, fun u _ => u = .slice (some ⟨bO, oO, none⟩) n c), (24, fun u _ => u = .int .i64 (k : Int)), (25, fun u _ => u = .pointer (some ⟨bO, oO + k, none⟩)), (26, fun u _ => u = .slice (some ⟨bK, oK, none⟩) N cK), (27, fun u _ => u = .int .i64 (m.length : Int)), (28, fun u _ => u = .pointer (some ⟨bK, oK + m.length * 2, none⟩)), (29, fun u _ => u = .agg #[.int .i64 x, .int .i64 y]), (30, fun u _ => u = .slice (some ⟨bO, oO, none⟩) n c), (31, fun u _ => u = .int .i64 (k : Int)), (32, fun u _ => u = .pointer (some ⟨bO, oO + k, none⟩)), (33, fun u _ => u = .slice (some ⟨bK, oK, none⟩) N cK), (34, fun u _ => u = .int .i64 (k : Int)), (35, fun u _ => u = .pointer (some ⟨bK, oK + k * 2, none⟩)), (36, fun u _ => u = .agg #[.int .i64 px, .int .i64 py]), (37, fun u _ => u = .agg #[.int .i64 q1, .int .i64 q2]), (38, fun u w' => ∃ X, u = .slice (some ⟨X, 0, none⟩) 1 1 ∧ wr.heap.size ≤ X ∧ IvBox w' X (q1, q2))]
theorem phiE1_steady : ∀ t v w1 w2, Below w1.heap.size w1 w2 → phiE1 wr bO oO bK oK g cap c cK n N k m x y px py q1 q2 t v w1 → phiE1 wr bO oO bK oK g cap c cK n N k m x y px py q1 q2 t v w2 := lk_steady _ ⟨steady_eq _, steady_eq _, steady_eq _, steady_eq _, steady_eq _, steady_eq _, steady_eq _, steady_eq _, steady_eq _, steady_eq _, steady_eq _, steady_eq _, steady_eq _, steady_eq _, steady_eq _, steady_eq _, fun u w1 w2 hb ⟨X, h1, h2, h3⟩ => ⟨X, h1, h2, (hb.block X h3.lt).trans h3⟩, trivial⟩
end
section
variable (wr : World) (bO oO bI oI g cap c cI gn cn n N k r : Nat) (m : List (Int × Int)) (x y fx fy n1 n2 t1 t2 q1 q2 : Int)
def phiE2 : Tmp → Value → World → Prop := lk [(60, fun u _ => u = .slice (some ⟨g, 0, none⟩) m.length cap), (61, fun u _ => u = .slice (some ⟨bO, oO, none⟩) n c), (62, fun u _ => u = .int .i64 (r : Int)), (63, fun u _ => u = .pointer (some ⟨bO, oO + r, none⟩)), (64, fun u _ => u = .slice (some ⟨bI, oI, none⟩) N cI), (65, fun u _ => u = .int .i64 (m.length : Int)), (66, fun u _ => u = .pointer (some ⟨bI, oI + m.length * 2, none⟩)), (67, fun u _ => u = .agg #[.int .i64 x, .int .i64 y]), (68, fun u _ => u = .slice (some ⟨bO, oO, none⟩) n c), (69, fun u _ => u = .int .i64 (r : Int)), (70, fun u _ => u = .pointer (some ⟨bO, oO + r, none⟩)), (71, fun u _ => u = .slice (some ⟨bI, oI, none⟩) N cI), (72, fun u _ => u = .int .i64 (k : Int)), (73, fun u _ => u = .pointer (some ⟨bI, oI + k * 2, none⟩)), (74, fun u _ => u = .agg #[.int .i64 fx, .int .i64 fy]), (75, fun u _ => u = .slice (some ⟨gn, 0, none⟩) N cn), (76, fun u _ => u = .int .i64 (m.length : Int)), (77, fun u _ => u = .pointer (some ⟨gn, m.length * 2, none⟩)), (78, fun u _ => u = .agg #[.int .i64 n1, .int .i64 n2]), (79, fun u _ => u = .agg #[.int .i64 t1, .int .i64 t2]), (80, fun u _ => u = .agg #[.int .i64 q1, .int .i64 q2]), (81, fun u w' => ∃ X, u = .slice (some ⟨X, 0, none⟩) 1 1 ∧ wr.heap.size ≤ X ∧ IvBox w' X (q1, q2))]
theorem phiE2_steady : ∀ t v w1 w2, Below w1.heap.size w1 w2 → phiE2 wr bO oO bI oI g cap c cI gn cn n N k r m x y fx fy n1 n2 t1 t2 q1 q2 t v w1 → phiE2 wr bO oO bI oI g cap c cI gn cn n N k r m x y fx fy n1 n2 t1 t2 q1 q2 t v w2 := lk_steady _ ⟨steady_eq _, steady_eq _, steady_eq _, steady_eq _, steady_eq _, steady_eq _, steady_eq _, steady_eq _, steady_eq _, steady_eq _, steady_eq _, steady_eq _, steady_eq _, steady_eq _, steady_eq _, steady_eq _, steady_eq _, steady_eq _, steady_eq _, steady_eq _, steady_eq _, fun u w1 w2 hb ⟨X, h1, h2, h3⟩ => ⟨X, h1, h2, (hb.block X h3.lt).trans h3⟩, trivial⟩
end

set_option maxHeartbeats 32000000 in
theorem r4elim (v : Value) (M : List (List (Int × Int))) (n N k : Nat) (w : World) (hv : Mx w v M) (hM : M.length = n) (hR : ∀ r ∈ M, r.length = N ∧ ∀ p ∈ r, VB p) (hk : k < n) (hkN : k < N) (h6 : n ≤ 6) (hN : N ≤ 12) :
    Calls Tryz.prog 43 #[v, .int .i64 (k : Int)] w fun e w' => ∃ u us, e = .returned u ∧ OwnM w.heap.size w' u us (elimM M k) ∧ Below w.heap.size w w' := by
  obtain ⟨i0, hi, hz0, hz1, hz2⟩ := info_parts info_iv
  obtain ⟨p0, pi, pz0, pz1, pz2⟩ := info_parts info_row
  obtain ⟨p, c, rfl⟩ := hv.shape hM
  obtain ⟨rk, hrk⟩ : ∃ r, M[k]? = some r := ⟨_, List.getElem?_eq_getElem (by rw [hM]; exact hk)⟩
  obtain ⟨hrkl, hrkv⟩ := hR rk (List.mem_of_getElem? hrk)
  obtain ⟨bO, oO, bK, oK, cK, rfl, hbO, hcO, hbxK⟩ := mx_at hv hrk hrkl (by omega)
  obtain ⟨px, py, hpv⟩ : ∃ px py, rk[k]? = some (px, py) := ⟨(rk[k]'(by omega)).1, (rk[k]'(by omega)).2, List.getElem?_eq_getElem _⟩
  have hpvb := hrkv _ (List.mem_of_getElem? hpv)
  have hel : elI M k k = (px, py) := by simp [elI, hrk, hpv]
  obtain ⟨nr, hnr⟩ : ∃ nr, nrmR M k = nr := ⟨_, rfl⟩
  have hnrl : nr.length = N := by rw [← hnr]; simp [nrmR, hrk, hrkl]
  have hnr2 : nr = rk.map fun x => divJ x (px, py) := by rw [← hnr, nrmR, hrk, hel]; rfl
  have hnrv : ∀ p ∈ nr, VB p := by
    rw [hnr2]
    intro p hp
    rw [List.mem_map] at hp
    obtain ⟨x, _, rfl⟩ := hp
    exact div_vb hpvb
  obtain ⟨E, hE⟩ : ∃ E, elimM M k = E := ⟨_, rfl⟩
  have hEl : E.length = n := by rw [← hE, elim_len, hM]
  have hEk : E[k]? = some nr := by rw [← hE, elim_at (by rw [hM]; exact hk), elimF, if_pos rfl, hnr]
  have hrows : ∀ i, i < n → i ≠ k → ∃ s fx fy, M[i]? = some s ∧ s.length = N ∧ (∀ p ∈ s, VB p) ∧ s[k]? = some (fx, fy) ∧ E[i]? = some (elimR nr (fx, fy) s) := by
    intro i hi hne
    obtain ⟨s, hs⟩ : ∃ s, M[i]? = some s := ⟨_, List.getElem?_eq_getElem (by rw [hM]; exact hi)⟩
    obtain ⟨hsl, hsv⟩ := hR s (List.mem_of_getElem? hs)
    have hsk : s[k]? = some (s[k]'(by omega)) := List.getElem?_eq_getElem _
    refine ⟨s, (s[k]'(by omega)).1, (s[k]'(by omega)).2, hs, hsl, hsv, hsk, ?_⟩
    rw [← hE, elim_at (by rw [hM]; exact hi), elimF, if_neg hne, hnr, hs]
    simp [elI, hs, hsk]
  rw [hE]
  have HV := Lib.hid hv
  have HCO := Lib.hid hcO
  have HBK := Lib.hid hbxK
  have HRKL := Lib.hid hrkl
  have HRKV := Lib.hid hrkv
  have HPV := Lib.hid hpv
  have HPVB := Lib.hid hpvb
  have HNRL := Lib.hid hnrl
  have HNR2 := Lib.hid hnr2
  have HNRV := Lib.hid hnrv
  have HEL := Lib.hid hEl
  have HEK := Lib.hid hEk
  have HRS := Lib.hid hrows
  have ikn : (k : Int) < n := by omega
  have ikN : (k : Int) < N := by omega
  clear hv hcO hbxK hrkl hrkv hpv hpvb hel hnr hnrl hnr2 hnrv hE hEl hEk hrows hM hR hrk
  go_enter Tryz.func43, Tryz.ntmps43
  go_wp2_with (fail)
  have hO0 : Hid (OwnM w.heap.size ((w.alloc (.cells #[] 48)).alloc (.cells #[] 22)) (.slice (some ⟨w.heap.size + 1, 0, none⟩) 0 0) [] []) := Lib.hid ⟨by simpa using World.ownsRow_made (e := 22) (size := 1) (w.alloc (.cells #[] 48)) #[] 0 (base := w.heap.size) (by simp) (by decide) rfl, fun i r h => by simp at h, fun i j R n c n' c' h => by simp at h⟩
  have hJ0 : OwnB w.heap.size ((w.alloc (.cells #[] 48)).alloc (.cells #[] 22)) (.slice (some ⟨w.heap.size, 0, none⟩) 0 0) [] := by
    have hb : Below (w.alloc (.cells #[] 48)).heap.size (w.alloc (.cells #[] 48)) ((w.alloc (.cells #[] 48)).alloc (.cells #[] 22)) := (Below.refl _ _).alloc (Nat.le_refl _) _
    have ho : (w.alloc (.cells #[] 48)).ownsRow w.heap.size 48 2 (.slice (some ⟨w.heap.size, 0, none⟩) 0 0) 0 [] := by simpa using World.ownsRow_made (e := 48) (size := 2) w #[] 0 (Nat.le_refl _) (by decide) rfl
    exact ⟨w.heap.size, 0, rfl, by simpa [cz] using ho.kept (grown_below hb) (.inr (by simp [Value.ownBlock]))⟩
  have hB0 : Below w.heap.size w ((w.alloc (.cells #[] 48)).alloc (.cells #[] 22)) := ((Below.refl _ _).alloc (Nat.le_refl _) _).alloc (by simp) _
  go_loopw [5, 7] (fun u i wr => ∃ m : List (Int × Int), i = .int .i64 m.length ∧ m.length ≤ N ∧ Hid (m = nr.take m.length) ∧ OwnB w.heap.size wr u m ∧ Hid (OwnM w.heap.size wr (.slice (some ⟨w.heap.size + 1, 0, none⟩) 0 0) [] []) ∧ Below w.heap.size w wr) (fun _ i _ => N - (intOf i).toNat)
  case atStart => exact ⟨[], rfl, Nat.zero_le _, Lib.hid (by simp), hJ0, hO0, hB0⟩
  case round =>
    clear hJ0 hO0 hB0
    obtain ⟨m, rfl, hm, HT, ⟨g, cap, rfl, hown⟩, HO, hB⟩ := hrel
    have fO : ∀ gg : Grown wr, gg.w.cell? ⟨bO, oO + k, none⟩ = some (.slice (some ⟨bK, oK, none⟩) N cK) := fun gg => HCO.out ⟨gg.w, below_then hB gg.h⟩
    have fO0 := fO ⟨wr, Below.refl _ _⟩
    dsimp only at fO0
    have hbOw : bO < wr.heap.size := Nat.lt_of_lt_of_le hbO hB.size
    by_cases hlt : m.length < N
    · obtain ⟨x, y, hx⟩ : ∃ x y, rk[m.length]? = some (x, y) := ⟨(rk[m.length]'(by rw [HRKL.out]; exact hlt)).1, (rk[m.length]'(by rw [HRKL.out]; exact hlt)).2, List.getElem?_eq_getElem _⟩
      have hxv := HRKV.out _ (List.mem_of_getElem? hx)
      obtain ⟨q1, q2, hq⟩ : ∃ q1 q2, divJ (x, y) (px, py) = (q1, q2) := ⟨_, _, rfl⟩
      have hnj : nr[m.length]? = some (q1, q2) := by rw [HNR2.out, List.getElem?_map, hx, Option.map_some, hq]
      have hcd := fun w => r2div x y px py w hxv HPVB.out
      rw [show divLo x y px py = q1 from congrArg Prod.fst hq, show divHi x y px py = q2 from congrArg Prod.snd hq] at hcd
      have HC := Lib.hid hcd
      have HX := Lib.hid hnj
      have fX := fun gg : Grown wr => ((bx_at HBK.out hx).2 ⟨gg.w, below_then hB gg.h⟩).1
      have fY := fun gg : Grown wr => ((bx_at HBK.out hx).2 ⟨gg.w, below_then hB gg.h⟩).2
      have fP := fun gg : Grown wr => ((bx_at HBK.out HPV.out).2 ⟨gg.w, below_then hB gg.h⟩).1
      have fQ := fun gg : Grown wr => ((bx_at HBK.out HPV.out).2 ⟨gg.w, below_then hB gg.h⟩).2
      dsimp only at fX fY fP fQ
      clear hx hxv hq hnj hcd
      have imN : (m.length : Int) < N := by omega
      have hgw := (hown.lt g rfl).2
      go_wp2_with (fail)
      refine region_pred_n 17 (phiE1 wr bO oO bK oK g cap c cK n N k m x y px py q1 q2) (by kernel_rfl) (by kernel_rfl) (phiE1_steady wr bO oO bK oK g cap c cK n N k m x y px py q1 q2) ?_ ?_
      · refine ⟨?_, ?_, ?_, ?_, ?_, ?_, ?_, ?_, ?_, ?_, ?_, ?_, ?_, ?_, ?_, ?_, ?_, trivial⟩
        · refine ob_plain [5] rfl rfl fun aa gg h => ?_
          have r0 := seen_out (v := .slice (some ⟨g, 0, none⟩) m.length cap) rfl rfl h.1
          have e0 := getD_of r0
          exact upon_value (v := .slice (some ⟨g, 0, none⟩) m.length cap) (by simp [go_sem, e0, r0]) (Below.refl _ _) rfl
        · refine ob_plain [0] rfl rfl fun aa gg h => ?_
          have r0 := seen_out (v := .slice (some ⟨bO, oO, none⟩) n c) rfl rfl h.1
          have e0 := getD_of r0
          exact upon_value (v := .slice (some ⟨bO, oO, none⟩) n c) (by simp [go_sem, e0, r0]) (Below.refl _ _) rfl
        · refine ob_plain [1] rfl rfl fun aa gg h => ?_
          have r0 := seen_out (v := .int .i64 (k : Int)) rfl rfl h.1
          have e0 := getD_of r0
          exact upon_value (v := .int .i64 (k : Int)) (by simp [go_sem, e0, r0]) (Below.refl _ _) rfl
        · refine ob_plain [23, 24] rfl rfl fun aa gg h => ?_
          obtain ⟨_, r0, rfl⟩ := seen_in rfl h.1
          have e0 := getD_of r0
          obtain ⟨_, r1, rfl⟩ := seen_in rfl h.2.1
          have e1 := getD_of r1
          exact upon_value (v := .pointer (some ⟨bO, oO + k, none⟩)) (by simp [go_sem, e0, r0, e1, r1, ikn]) (Below.refl _ _) rfl
        · refine ob_plain [25] rfl rfl fun aa gg h => ?_
          obtain ⟨_, r0, rfl⟩ := seen_in rfl h.1
          have e0 := getD_of r0
          exact upon_value (v := .slice (some ⟨bK, oK, none⟩) N cK) (by simp [go_sem, e0, r0, fO gg]) (Below.refl _ _) rfl
        · refine ob_plain [7] rfl rfl fun aa gg h => ?_
          have r0 := seen_out (v := .int .i64 (m.length : Int)) rfl rfl h.1
          have e0 := getD_of r0
          exact upon_value (v := .int .i64 (m.length : Int)) (by simp [go_sem, e0, r0]) (Below.refl _ _) rfl
        · refine ob_plain [26, 27] rfl rfl fun aa gg h => ?_
          obtain ⟨_, r0, rfl⟩ := seen_in rfl h.1
          have e0 := getD_of r0
          obtain ⟨_, r1, rfl⟩ := seen_in rfl h.2.1
          have e1 := getD_of r1
          exact upon_value (v := .pointer (some ⟨bK, oK + m.length * 2, none⟩)) (by simp [go_sem, e0, r0, e1, r1, imN]) (Below.refl _ _) rfl
        · refine ob_plain [28] rfl rfl fun aa gg h => ?_
          obtain ⟨_, r0, rfl⟩ := seen_in rfl h.1
          have e0 := getD_of r0
          exact upon_value (v := .agg #[.int .i64 x, .int .i64 y]) (by simp [go_sem, e0, r0, fX gg, fY gg]) (Below.refl _ _) rfl
        · refine ob_plain [0] rfl rfl fun aa gg h => ?_
          have r0 := seen_out (v := .slice (some ⟨bO, oO, none⟩) n c) rfl rfl h.1
          have e0 := getD_of r0
          exact upon_value (v := .slice (some ⟨bO, oO, none⟩) n c) (by simp [go_sem, e0, r0]) (Below.refl _ _) rfl
        · refine ob_plain [1] rfl rfl fun aa gg h => ?_
          have r0 := seen_out (v := .int .i64 (k : Int)) rfl rfl h.1
          have e0 := getD_of r0
          exact upon_value (v := .int .i64 (k : Int)) (by simp [go_sem, e0, r0]) (Below.refl _ _) rfl
        · refine ob_plain [30, 31] rfl rfl fun aa gg h => ?_
          obtain ⟨_, r0, rfl⟩ := seen_in rfl h.1
          have e0 := getD_of r0
          obtain ⟨_, r1, rfl⟩ := seen_in rfl h.2.1
          have e1 := getD_of r1
          exact upon_value (v := .pointer (some ⟨bO, oO + k, none⟩)) (by simp [go_sem, e0, r0, e1, r1, ikn]) (Below.refl _ _) rfl
        · refine ob_plain [32] rfl rfl fun aa gg h => ?_
          obtain ⟨_, r0, rfl⟩ := seen_in rfl h.1
          have e0 := getD_of r0
          exact upon_value (v := .slice (some ⟨bK, oK, none⟩) N cK) (by simp [go_sem, e0, r0, fO gg]) (Below.refl _ _) rfl
        · refine ob_plain [1] rfl rfl fun aa gg h => ?_
          have r0 := seen_out (v := .int .i64 (k : Int)) rfl rfl h.1
          have e0 := getD_of r0
          exact upon_value (v := .int .i64 (k : Int)) (by simp [go_sem, e0, r0]) (Below.refl _ _) rfl
        · refine ob_plain [33, 34] rfl rfl fun aa gg h => ?_
          obtain ⟨_, r0, rfl⟩ := seen_in rfl h.1
          have e0 := getD_of r0
          obtain ⟨_, r1, rfl⟩ := seen_in rfl h.2.1
          have e1 := getD_of r1
          exact upon_value (v := .pointer (some ⟨bK, oK + k * 2, none⟩)) (by simp [go_sem, e0, r0, e1, r1, ikN]) (Below.refl _ _) rfl
        · refine ob_plain [35] rfl rfl fun aa gg h => ?_
          obtain ⟨_, r0, rfl⟩ := seen_in rfl h.1
          have e0 := getD_of r0
          exact upon_value (v := .agg #[.int .i64 px, .int .i64 py]) (by simp [go_sem, e0, r0, fP gg, fQ gg]) (Below.refl _ _) rfl
        · refine ob_plain [29, 36] rfl rfl fun aa gg h => ?_
          obtain ⟨_, r0, rfl⟩ := seen_in rfl h.1
          have e0 := getD_of r0
          obtain ⟨_, r1, rfl⟩ := seen_in rfl h.2.1
          have e1 := getD_of r1
          exact upon_enter (f := 81) (args := #[.agg #[.int .i64 x, .int .i64 y], .agg #[.int .i64 px, .int .i64 py]]) (by simp [go_sem, e0, r0, e1, r1]) rfl ((HC.out _).mono fun e w' ⟨h, hB⟩ => ⟨_, h, hB, rfl⟩)
        · refine ob_plain [37] rfl rfl fun aa gg h => ?_
          obtain ⟨_, r0, rfl⟩ := seen_in rfl h.1
          have e0 := getD_of r0
          exact upon_value (v := .slice (some ⟨gg.w.heap.size, 0, none⟩) 1 1) (w1 := gg.w.alloc (.cells #[.int .i64 q1, .int .i64 q2] 48)) (by simp [go_sem, e0, r0]) ((Below.refl _ _).alloc (Nat.le_refl _) _) ⟨_, rfl, gg.h.size, World.alloc_heap_new _ _⟩
      · rintro w3 hB3 _ rfl _ rfl _ rfl _ rfl _ rfl _ rfl _ rfl _ rfl _ rfl _ rfl _ rfl _ rfl _ rfl _ rfl _ rfl _ rfl _ ⟨X, rfl, hX, hh⟩
        simp only [Act.put, List.setIfInBounds_toArray, List.set_cons_succ, List.set_cons_zero, finP, List.drop_succ_cons, List.drop_zero]
        have hrow3 := hown.kept (grown_below hB3) (.inr (by simp [Value.ownBlock]))
        have hO3 := HO.out.kept hB3
        have hB8 : Below w.heap.size w w3 := hB.trans (hB3.mono hB.size)
        have hg5 : w.heap.size ≤ w3.heap.size := hB8.size
        have hX5 : w.heap.size ≤ X := Nat.le_trans hB.size hX
        have HO3 := Lib.hid hO3
        clear hO3
        refine wpList_append_own _ rfl (.tmp 22) (.tmp 38) 22 rfl w.heap.size 48 i0 (.agg #[.int .i64 0, .int .i64 0]) 2 16 Tryz.underlying22 hi hz0 hz1 hz2 rfl (by decide) (.slice (some ⟨g, 0, none⟩) m.length cap) m.length _ rfl hrow3 ⟨X, 0, none⟩ 1 1 [.int .i64 q1, .int .i64 q2] rfl rfl (two_box hh) (two_one _ _) (by unfold maxLen; omega) (by omega) (by first | omega | (simp; omega)) ?_
        intro v' w6 hown' hgrow _
        obtain ⟨g', cap', rfl⟩ := ownsRow_succ hown'
        have hB9 : Below w.heap.size w w6 := Below.grown hB8 hgrow (by first | omega | (simp; omega)) (fun k hk => (hown.lt k hk).1)
        have HO6 := Lib.hid (out0_kept HO3.out hrow3 hgrow)
        rw [← cz_snoc] at hown'
        have HOW := Lib.hid hown'
        clear hown' hgrow hrow3 fO fO0 fX fY fP fQ
        simp only [Act.put, List.setIfInBounds_toArray, List.set_cons_succ, List.set_cons_zero]
        go_wp2_with (fail)
        go_roundw
        case rel => exact ⟨m ++ [(q1, q2)], by simp, by simp; omega, Lib.hid (tk_snoc HT.out HX.out), ⟨g', cap', by simp, by simpa using HOW.out⟩, HO6, hB9⟩
        case measure => simp [intOf]; omega
    · have hml : m.length = N := by omega
      have hmr : m = nr := tk_end HT.out (by rw [HNRL.out]; omega)
      have imN : (N : Int) ≤ m.length := by omega
      have hn0 : wr.ownsRow w.heap.size 48 2 (.slice (some ⟨g, 0, none⟩) N cap) N (cz nr) := by rw [← hmr, ← hml]; exact hown
      obtain ⟨gn, hgn⟩ : ∃ gn, gn = g := ⟨_, rfl⟩
      obtain ⟨cn, hcn⟩ : ∃ cn, cn = cap := ⟨_, rfl⟩
      subst hgn hcn
      rw [hml] at imN ⊢
      have HN0 := Lib.hid hn0
      have hgnw := (hown.lt gn rfl).2
      clear hown hmr HT hml hm hn0
      go_wp2_with (fail)
      obtain ⟨W1, hW1⟩ : ∃ W1, W1 = wr := ⟨_, rfl⟩
      subst hW1
      go_loopw [6, 8] (fun u i wr => ∃ (R : List (List (Int × Int))) (us : List Value) (g cap : Nat), i = .int .i64 R.length ∧ R.length ≤ n ∧ u = .slice (some ⟨g, 0, none⟩) R.length cap ∧ Hid (R = E.take R.length) ∧ Hid (OwnM w.heap.size wr u us R) ∧ Hid (R.length ≤ k → ∀ (i R' n c : Nat), us[i]? = some (Value.slice (some ⟨R', 0, none⟩) n c) → W1.heap.size ≤ R') ∧ Hid (wr.ownsRow w.heap.size 48 2 (.slice (some ⟨gn, 0, none⟩) N cn) N (cz nr)) ∧ W1.heap.size ≤ wr.heap.size ∧ Below w.heap.size w wr) (fun _ i _ => n - (intOf i).toNat)
      case atStart => exact ⟨[], [], w.heap.size + 1, 0, rfl, Nat.zero_le _, rfl, Lib.hid (by simp), HO, Lib.hid (fun _ i R' n c h => by simp at h), HN0, Nat.le_refl _, hB⟩
      case round =>
        clear HN0 HO fO fO0 hbOw
        obtain ⟨R, us, g, cap, rfl, hPn, rfl, HS, HO, HF, HN0, hW1s, hBw⟩ := hrel
        by_cases hrn : R.length < n
        · have irn : (R.length : Int) < n := by omega
          by_cases hrk : R.length = k
          · have hneq : ((R.length : Int) != (k : Int)) = false := by rw [hrk]; simp
            have HX : Hid (E[R.length]? = some nr) := Lib.hid (by rw [hrk]; exact HEK.out)
            have hfar : ∀ (i R' n' c' : Nat), us[i]? = some (Value.slice (some ⟨R', 0, none⟩) n' c') → R' ≠ gn := fun i R' n' c' h => by
              have := HF.out (by omega) i R' n' c' h
              omega
            have HFA := Lib.hid hfar
            have hout5 := HO.out.out
            have hszw := hBw.size
            have HRK := Lib.hid hrk
            clear hfar hrk
            go_wp2_with (at_builtin; refine wpList_append_own _ rfl (.tmp 83) (.tmp 85) 25 rfl w.heap.size 22 p0 (.slice none 0 0) 1 24 Tryz.underlying25 pi pz0 pz1 pz2 rfl (by decide) (.slice (some ⟨g, 0, none⟩) R.length cap) R.length _ rfl (hout5.alloc _) ⟨wr.heap.size, 0, none⟩ 1 1 [.slice (some ⟨gn, 0, none⟩) N cn] rfl rfl (new_one _ _ _) (one_sl _ _ _) (by unfold maxLen; omega) (by omega) (by first | omega | (simp; omega)) ?_)
            have hBa : Below wr.heap.size wr (wr.alloc (.cells #[Value.slice (some ⟨gn, 0, none⟩) N cn] 22)) := (Below.refl _ _).alloc (Nat.le_refl _) _
            intro v' w6 hown' hgrow _
            obtain ⟨g', cap', rfl⟩ := ownsRow_succ hown'
            have hB9 : Below w.heap.size w w6 := Below.grown (hBw.trans (hBa.mono hszw)) hgrow (by first | omega | (simp; omega)) (fun q hq => (hout5.lt q hq).1)
            have hnA := HN0.out.kept (grown_below hBa) (.inr (by simp [Value.ownBlock]))
            have hOA := HO.out.kept hBa
            have hP : OwnM w.heap.size w6 (.slice (some ⟨g', 0, none⟩) (R.length + 1) cap') (us ++ [.slice (some ⟨gn, 0, none⟩) N cn]) (R ++ [nr]) := by
              have := OwnM.push (r := nr) hOA (by rw [HNRL.out]; exact hnA) HFA.out (by rw [HNRL.out]; exact hown') hgrow
              rw [HNRL.out] at this
              exact this
            have HPP := Lib.hid hP
            have HN6 := Lib.hid (own_keep hOA.out hnA hgrow)
            have hs6 : W1.heap.size ≤ w6.heap.size := Nat.le_trans hW1s (Nat.le_trans hBa.size hgrow.size)
            clear hP hown' hgrow hout5 hnA hOA
            go_wp2_with (fail)
            go_roundw
            case rel => exact ⟨R ++ [nr], _, g', cap', by simp, by simp; omega, by simp, Lib.hid (tk_snoc HS.out HX.out), HPP, Lib.hid (fun q => by simp at q; have := HRK.out; omega), HN6, hs6, hB9⟩
            case measure => simp [intOf]; omega
          · have hneq : ((R.length : Int) != (k : Int)) = true := by simp; omega
            obtain ⟨s, fx, fy, hMs, hsl, hsv, hsk, hEi⟩ := HRS.out R.length hrn hrk
            obtain ⟨bO', oO', bI, oI, cI, e, _, hcI, hbxI⟩ := mx_at HV.out hMs hsl (by omega)
            simp only [Option.some.injEq, Addr.mk.injEq, and_true] at e
            obtain ⟨rfl, rfl⟩ := e
            obtain ⟨new, hnew⟩ : ∃ new, elimR nr (fx, fy) s = new := ⟨_, rfl⟩
            have hfv : VB (fx, fy) := hsv _ (List.mem_of_getElem? hsk)
            have hnewl : new.length = N := by rw [← hnew]; simp [elimR, hsl, HNRL.out]
            have HX : Hid (E[R.length]? = some new) := Lib.hid (by rw [hEi, hnew])
            have HSL := Lib.hid hsl
            have HSV := Lib.hid hsv
            have HSK := Lib.hid hsk
            have HCI := Lib.hid hcI
            have HBI := Lib.hid hbxI
            have HNEW := Lib.hid hnew
            have HNEWL := Lib.hid hnewl
            have HFV := Lib.hid hfv
            have HRK0 := Lib.hid hrk
            obtain ⟨W0, rfl⟩ : ∃ W0, W0 = wr := ⟨_, rfl⟩
            have hsz0 := hBw.size
            have hBa : Below W0.heap.size W0 (W0.alloc (.cells #[] 48)) := (Below.refl _ _).alloc (Nat.le_refl _) _
            have hJ0 : OwnB W0.heap.size (W0.alloc (.cells #[] 48)) (.slice (some ⟨W0.heap.size, 0, none⟩) 0 0) [] := ⟨W0.heap.size, 0, rfl, by simpa [cz] using World.ownsRow_made (e := 48) (size := 2) W0 #[] 0 (Nat.le_refl _) (by decide) rfl⟩
            clear hMs hsl hsv hsk hcI hbxI hnew hnewl hfv hEi hrk
            go_wp2_with (fail)
            go_loopw [9, 10] (fun u i wr => ∃ m : List (Int × Int), i = .int .i64 m.length ∧ m.length ≤ N ∧ Hid (m = new.take m.length) ∧ OwnB W0.heap.size wr u m ∧ Below W0.heap.size W0 wr) (fun _ i _ => N - (intOf i).toNat)
            case atStart => exact ⟨[], rfl, Nat.zero_le _, Lib.hid (by simp), hJ0, hBa⟩
            case round =>
              clear hJ0 hBa
              have hgo : g < W0.heap.size := (HO.out.out.lt g rfl).2
              have HGO := Lib.hid hgo
              obtain ⟨m, rfl, hm, HT, ⟨gr, capr, rfl, hown⟩, hB1⟩ := hrel
              have hBz : Below w.heap.size w wr := below_then hBw hB1
              have hnW := HN0.out.kept (grown_below hB1) (.inr (by simp [Value.ownBlock]))
              have fO : ∀ gg : Grown wr, gg.w.cell? ⟨bO, oO + R.length, none⟩ = some (.slice (some ⟨bI, oI, none⟩) N cI) := fun gg => HCI.out ⟨gg.w, below_then hBz gg.h⟩
              have fO0 := fO ⟨wr, Below.refl _ _⟩
              dsimp only at fO0
              by_cases hmn : m.length < N
              · have imN : (m.length : Int) < N := by omega
                obtain ⟨x, y, hx⟩ : ∃ x y, s[m.length]? = some (x, y) := ⟨(s[m.length]'(by rw [HSL.out]; exact hmn)).1, (s[m.length]'(by rw [HSL.out]; exact hmn)).2, List.getElem?_eq_getElem _⟩
                obtain ⟨n1, n2, hn⟩ : ∃ n1 n2, nr[m.length]? = some (n1, n2) := ⟨(nr[m.length]'(by rw [HNRL.out]; exact hmn)).1, (nr[m.length]'(by rw [HNRL.out]; exact hmn)).2, List.getElem?_eq_getElem _⟩
                have hxv := HSV.out _ (List.mem_of_getElem? hx)
                have hnv := HNRV.out _ (List.mem_of_getElem? hn)
                obtain ⟨t1, t2, ht⟩ : ∃ t1 t2, mulI ((fx, fy), (n1, n2)) = (t1, t2) := ⟨_, _, rfl⟩
                obtain ⟨q1, q2, hq⟩ : ∃ q1 q2, subI (x, y) (t1, t2) = (q1, q2) := ⟨_, _, rfl⟩
                have htv : VB (t1, t2) := by rw [← ht]; exact mul_vb _
                have hnd : new[m.length]? = some (q1, q2) := by
                  rw [← HNEW.out, elimR, List.getElem?_map, (List.getElem?_zip_eq_some (z := ((x, y), (n1, n2)))).2 ⟨hx, hn⟩, Option.map_some]
                  show some (subI (x, y) (mulI ((fx, fy), (n1, n2)))) = _
                  rw [ht, hq]
                obtain ⟨a1, a2, a3, a4⟩ := VI.bd4 (p := (x, y)) hxv
                obtain ⟨a5, a6, a7, a8⟩ := VI.bd4 (p := (t1, t2)) htv
                have hc1 := fun w => r2mul fx fy n1 n2 w HFV.out hnv
                have hc2 := fun w => r2sub x y t1 t2 w a1 a2 a3 a4 a5 a6 a7 a8
                rw [show mulLo fx fy n1 n2 = t1 from congrArg Prod.fst ht, show mulHi fx fy n1 n2 = t2 from congrArg Prod.snd ht] at hc1
                rw [show addLo x y (-t2) (-t1) = q1 from congrArg Prod.fst hq, show addHi x y (-t2) (-t1) = q2 from congrArg Prod.snd hq] at hc2
                have HC1 := Lib.hid hc1
                have HC2 := Lib.hid hc2
                have HND := Lib.hid hnd
                have fX := fun gg : Grown wr => ((bx_at HBI.out hx).2 ⟨gg.w, below_then hBz gg.h⟩).1
                have fY := fun gg : Grown wr => ((bx_at HBI.out hx).2 ⟨gg.w, below_then hBz gg.h⟩).2
                have fP := fun gg : Grown wr => ((bx_at HBI.out HSK.out).2 ⟨gg.w, below_then hBz gg.h⟩).1
                have fQ := fun gg : Grown wr => ((bx_at HBI.out HSK.out).2 ⟨gg.w, below_then hBz gg.h⟩).2
                dsimp only at fX fY fP fQ
                have z0 := hnW.cellAt (m.length * 2) (by omega)
                have z1 := hnW.cellAt (m.length * 2 + 1) (by omega)
                rw [(cz_get _ _ _ hn).1] at z0
                rw [(cz_get _ _ _ hn).2] at z1
                dsimp only at z0 z1
                have hgl := (hnW.lt gn rfl).2
                have fN := fun gg : Grown wr => (gg.cell hgl).trans z0
                have fM := fun gg : Grown wr => (gg.cell hgl).trans z1
                clear hx hn hxv hnv ht hq htv hnd hc1 hc2 a1 a2 a3 a4 a5 a6 a7 a8 z0 z1 hnW
                have hgw := (hown.lt gr rfl).2
                go_wp2_with (fail)
                refine region_pred_n 22 (phiE2 wr bO oO bI oI gr capr c cI gn cn n N k R.length m x y fx fy n1 n2 t1 t2 q1 q2) (by kernel_rfl) (by kernel_rfl) (phiE2_steady wr bO oO bI oI gr capr c cI gn cn n N k R.length m x y fx fy n1 n2 t1 t2 q1 q2) ?_ ?_
                · refine ⟨?_, ?_, ?_, ?_, ?_, ?_, ?_, ?_, ?_, ?_, ?_, ?_, ?_, ?_, ?_, ?_, ?_, ?_, ?_, ?_, ?_, ?_, trivial⟩
                  · refine ob_plain [9] rfl rfl fun aa gg h => ?_
                    have r0 := seen_out (v := .slice (some ⟨gr, 0, none⟩) m.length capr) rfl rfl h.1
                    have e0 := getD_of r0
                    exact upon_value (v := .slice (some ⟨gr, 0, none⟩) m.length capr) (by simp [go_sem, e0, r0]) (Below.refl _ _) rfl
                  · refine ob_plain [0] rfl rfl fun aa gg h => ?_
                    have r0 := seen_out (v := .slice (some ⟨bO, oO, none⟩) n c) rfl rfl h.1
                    have e0 := getD_of r0
                    exact upon_value (v := .slice (some ⟨bO, oO, none⟩) n c) (by simp [go_sem, e0, r0]) (Below.refl _ _) rfl
                  · refine ob_plain [8] rfl rfl fun aa gg h => ?_
                    have r0 := seen_out (v := .int .i64 (R.length : Int)) rfl rfl h.1
                    have e0 := getD_of r0
                    exact upon_value (v := .int .i64 (R.length : Int)) (by simp [go_sem, e0, r0]) (Below.refl _ _) rfl
                  · refine ob_plain [61, 62] rfl rfl fun aa gg h => ?_
                    obtain ⟨_, r0, rfl⟩ := seen_in rfl h.1
                    have e0 := getD_of r0
                    obtain ⟨_, r1, rfl⟩ := seen_in rfl h.2.1
                    have e1 := getD_of r1
                    exact upon_value (v := .pointer (some ⟨bO, oO + R.length, none⟩)) (by simp [go_sem, e0, r0, e1, r1, irn]) (Below.refl _ _) rfl
                  · refine ob_plain [63] rfl rfl fun aa gg h => ?_
                    obtain ⟨_, r0, rfl⟩ := seen_in rfl h.1
                    have e0 := getD_of r0
                    exact upon_value (v := .slice (some ⟨bI, oI, none⟩) N cI) (by simp [go_sem, e0, r0, fO gg]) (Below.refl _ _) rfl
                  · refine ob_plain [10] rfl rfl fun aa gg h => ?_
                    have r0 := seen_out (v := .int .i64 (m.length : Int)) rfl rfl h.1
                    have e0 := getD_of r0
                    exact upon_value (v := .int .i64 (m.length : Int)) (by simp [go_sem, e0, r0]) (Below.refl _ _) rfl
                  · refine ob_plain [64, 65] rfl rfl fun aa gg h => ?_
                    obtain ⟨_, r0, rfl⟩ := seen_in rfl h.1
                    have e0 := getD_of r0
                    obtain ⟨_, r1, rfl⟩ := seen_in rfl h.2.1
                    have e1 := getD_of r1
                    exact upon_value (v := .pointer (some ⟨bI, oI + m.length * 2, none⟩)) (by simp [go_sem, e0, r0, e1, r1, imN]) (Below.refl _ _) rfl
                  · refine ob_plain [66] rfl rfl fun aa gg h => ?_
                    obtain ⟨_, r0, rfl⟩ := seen_in rfl h.1
                    have e0 := getD_of r0
                    exact upon_value (v := .agg #[.int .i64 x, .int .i64 y]) (by simp [go_sem, e0, r0, fX gg, fY gg]) (Below.refl _ _) rfl
                  · refine ob_plain [0] rfl rfl fun aa gg h => ?_
                    have r0 := seen_out (v := .slice (some ⟨bO, oO, none⟩) n c) rfl rfl h.1
                    have e0 := getD_of r0
                    exact upon_value (v := .slice (some ⟨bO, oO, none⟩) n c) (by simp [go_sem, e0, r0]) (Below.refl _ _) rfl
                  · refine ob_plain [8] rfl rfl fun aa gg h => ?_
                    have r0 := seen_out (v := .int .i64 (R.length : Int)) rfl rfl h.1
                    have e0 := getD_of r0
                    exact upon_value (v := .int .i64 (R.length : Int)) (by simp [go_sem, e0, r0]) (Below.refl _ _) rfl
                  · refine ob_plain [68, 69] rfl rfl fun aa gg h => ?_
                    obtain ⟨_, r0, rfl⟩ := seen_in rfl h.1
                    have e0 := getD_of r0
                    obtain ⟨_, r1, rfl⟩ := seen_in rfl h.2.1
                    have e1 := getD_of r1
                    exact upon_value (v := .pointer (some ⟨bO, oO + R.length, none⟩)) (by simp [go_sem, e0, r0, e1, r1, irn]) (Below.refl _ _) rfl
                  · refine ob_plain [70] rfl rfl fun aa gg h => ?_
                    obtain ⟨_, r0, rfl⟩ := seen_in rfl h.1
                    have e0 := getD_of r0
                    exact upon_value (v := .slice (some ⟨bI, oI, none⟩) N cI) (by simp [go_sem, e0, r0, fO gg]) (Below.refl _ _) rfl
                  · refine ob_plain [1] rfl rfl fun aa gg h => ?_
                    have r0 := seen_out (v := .int .i64 (k : Int)) rfl rfl h.1
                    have e0 := getD_of r0
                    exact upon_value (v := .int .i64 (k : Int)) (by simp [go_sem, e0, r0]) (Below.refl _ _) rfl
                  · refine ob_plain [71, 72] rfl rfl fun aa gg h => ?_
                    obtain ⟨_, r0, rfl⟩ := seen_in rfl h.1
                    have e0 := getD_of r0
                    obtain ⟨_, r1, rfl⟩ := seen_in rfl h.2.1
                    have e1 := getD_of r1
                    exact upon_value (v := .pointer (some ⟨bI, oI + k * 2, none⟩)) (by simp [go_sem, e0, r0, e1, r1, ikN]) (Below.refl _ _) rfl
                  · refine ob_plain [73] rfl rfl fun aa gg h => ?_
                    obtain ⟨_, r0, rfl⟩ := seen_in rfl h.1
                    have e0 := getD_of r0
                    exact upon_value (v := .agg #[.int .i64 fx, .int .i64 fy]) (by simp [go_sem, e0, r0, fP gg, fQ gg]) (Below.refl _ _) rfl
                  · refine ob_plain [5] rfl rfl fun aa gg h => ?_
                    have r0 := seen_out (v := .slice (some ⟨gn, 0, none⟩) N cn) rfl rfl h.1
                    have e0 := getD_of r0
                    exact upon_value (v := .slice (some ⟨gn, 0, none⟩) N cn) (by simp [go_sem, e0, r0]) (Below.refl _ _) rfl
                  · refine ob_plain [10] rfl rfl fun aa gg h => ?_
                    have r0 := seen_out (v := .int .i64 (m.length : Int)) rfl rfl h.1
                    have e0 := getD_of r0
                    exact upon_value (v := .int .i64 (m.length : Int)) (by simp [go_sem, e0, r0]) (Below.refl _ _) rfl
                  · refine ob_plain [75, 76] rfl rfl fun aa gg h => ?_
                    obtain ⟨_, r0, rfl⟩ := seen_in rfl h.1
                    have e0 := getD_of r0
                    obtain ⟨_, r1, rfl⟩ := seen_in rfl h.2.1
                    have e1 := getD_of r1
                    exact upon_value (v := .pointer (some ⟨gn, m.length * 2, none⟩)) (by simp [go_sem, e0, r0, e1, r1, imN]) (Below.refl _ _) rfl
                  · refine ob_plain [77] rfl rfl fun aa gg h => ?_
                    obtain ⟨_, r0, rfl⟩ := seen_in rfl h.1
                    have e0 := getD_of r0
                    exact upon_value (v := .agg #[.int .i64 n1, .int .i64 n2]) (by simp [go_sem, e0, r0, fN gg, fM gg]) (Below.refl _ _) rfl
                  · refine ob_plain [74, 78] rfl rfl fun aa gg h => ?_
                    obtain ⟨_, r0, rfl⟩ := seen_in rfl h.1
                    have e0 := getD_of r0
                    obtain ⟨_, r1, rfl⟩ := seen_in rfl h.2.1
                    have e1 := getD_of r1
                    exact upon_enter (f := 51) (args := #[.agg #[.int .i64 fx, .int .i64 fy], .agg #[.int .i64 n1, .int .i64 n2]]) (by simp [go_sem, e0, r0, e1, r1]) rfl ((HC1.out _).mono fun e w' ⟨h, hB⟩ => ⟨_, h, hB, rfl⟩)
                  · refine ob_plain [67, 79] rfl rfl fun aa gg h => ?_
                    obtain ⟨_, r0, rfl⟩ := seen_in rfl h.1
                    have e0 := getD_of r0
                    obtain ⟨_, r1, rfl⟩ := seen_in rfl h.2.1
                    have e1 := getD_of r1
                    exact upon_enter (f := 82) (args := #[.agg #[.int .i64 x, .int .i64 y], .agg #[.int .i64 t1, .int .i64 t2]]) (by simp [go_sem, e0, r0, e1, r1]) rfl ((HC2.out _).mono fun e w' ⟨h, hB⟩ => ⟨_, h, hB, rfl⟩)
                  · refine ob_plain [80] rfl rfl fun aa gg h => ?_
                    obtain ⟨_, r0, rfl⟩ := seen_in rfl h.1
                    have e0 := getD_of r0
                    exact upon_value (v := .slice (some ⟨gg.w.heap.size, 0, none⟩) 1 1) (w1 := gg.w.alloc (.cells #[.int .i64 q1, .int .i64 q2] 48)) (by simp [go_sem, e0, r0]) ((Below.refl _ _).alloc (Nat.le_refl _) _) ⟨_, rfl, gg.h.size, World.alloc_heap_new _ _⟩
                · rintro w3 hB3 _ rfl _ rfl _ rfl _ rfl _ rfl _ rfl _ rfl _ rfl _ rfl _ rfl _ rfl _ rfl _ rfl _ rfl _ rfl _ rfl _ rfl _ rfl _ rfl _ rfl _ rfl _ ⟨X, rfl, hX, hh⟩
                  simp only [Act.put, List.setIfInBounds_toArray, List.set_cons_succ, List.set_cons_zero, finP, List.drop_succ_cons, List.drop_zero]
                  have hrow3 := hown.kept (grown_below hB3) (.inr (by simp [Value.ownBlock]))
                  have hB8 : Below W0.heap.size W0 w3 := below_then hB1 hB3
                  have hg5 : W0.heap.size ≤ w3.heap.size := hB8.size
                  have hX5 : W0.heap.size ≤ X := Nat.le_trans hB1.size hX
                  refine wpList_append_own _ rfl (.tmp 60) (.tmp 81) 22 rfl W0.heap.size 48 i0 (.agg #[.int .i64 0, .int .i64 0]) 2 16 Tryz.underlying22 hi hz0 hz1 hz2 rfl (by decide) (.slice (some ⟨gr, 0, none⟩) m.length capr) m.length _ rfl hrow3 ⟨X, 0, none⟩ 1 1 [.int .i64 q1, .int .i64 q2] rfl rfl (two_box hh) (two_one _ _) (by unfold maxLen; omega) (by omega) (by first | omega | (simp; omega)) ?_
                  intro v' w6 hown' hgrow _
                  obtain ⟨g', cap', rfl⟩ := ownsRow_succ hown'
                  have hB9 : Below W0.heap.size W0 w6 := Below.grown hB8 hgrow (by first | omega | (simp; omega)) (fun k hk => (hown.lt k hk).1)
                  rw [← cz_snoc] at hown'
                  have HOW := Lib.hid hown'
                  clear hown' hgrow hrow3 fO fO0 fX fY fP fQ fN fM
                  simp only [Act.put, List.setIfInBounds_toArray, List.set_cons_succ, List.set_cons_zero]
                  go_wp2_with (fail)
                  go_roundw
                  case rel => exact ⟨m ++ [(q1, q2)], by simp, by simp; omega, Lib.hid (tk_snoc HT.out HND.out), ⟨g', cap', by simp, by simpa using HOW.out⟩, hB9⟩
                  case measure => simp [intOf]; omega
              · have hmn' : m.length = N := by omega
                have hmr : m = new := tk_end HT.out (by rw [HNEWL.out]; omega)
                have HMR := Lib.hid hmr
                have hg1 := (hown.lt gr rfl).1
                have HFA := Lib.hid (far_new HO.out hg1)
                have hO5 := HO.out.kept hB1
                have hout5 := hO5.out
                have hszw := hBz.size
                have hrowB := own_mono (B := w.heap.size) hown hsz0
                have HO5 := Lib.hid hO5
                have HRB := Lib.hid hrowB
                have HNW := Lib.hid hnW
                have imN : (N : Int) ≤ m.length := by omega
                clear hO5 hrowB hown hmr hnW hmn' hmn
                go_wp2_with (at_builtin; refine wpList_append_own _ rfl (.tmp 83) (.tmp 85) 25 rfl w.heap.size 22 p0 (.slice none 0 0) 1 24 Tryz.underlying25 pi pz0 pz1 pz2 rfl (by decide) (.slice (some ⟨g, 0, none⟩) R.length cap) R.length _ rfl (hout5.alloc _) ⟨wr.heap.size, 0, none⟩ 1 1 [.slice (some ⟨gr, 0, none⟩) m.length capr] rfl rfl (new_one _ _ _) (one_sl _ _ _) (by unfold maxLen; omega) (by omega) (by first | omega | (simp; omega)) ?_)
                have hBa : Below wr.heap.size wr (wr.alloc (.cells #[Value.slice (some ⟨gr, 0, none⟩) m.length capr] 22)) := (Below.refl _ _).alloc (Nat.le_refl _) _
                intro v' w6 hown' hgrow _
                obtain ⟨g', cap', rfl⟩ := ownsRow_succ hown'
                have hB9 : Below w.heap.size w w6 := Below.grown (hBz.trans (hBa.mono hszw)) hgrow (by first | omega | (simp; omega)) (fun q hq => (hout5.lt q hq).1)
                have hOA := HO5.out.kept hBa
                have hP : OwnM w.heap.size w6 (.slice (some ⟨g', 0, none⟩) (R.length + 1) cap') (us ++ [.slice (some ⟨gr, 0, none⟩) m.length capr]) (R ++ [m]) :=
                  OwnM.push hOA (HRB.out.kept (grown_below hBa) (.inr (by simp [Value.ownBlock]))) HFA.out hown' hgrow
                have HPP := Lib.hid hP
                have HN6 := Lib.hid (own_keep hOA.out (HNW.out.kept (grown_below hBa) (.inr (by simp [Value.ownBlock]))) hgrow)
                have hs6 : W1.heap.size ≤ w6.heap.size := Nat.le_trans hW1s (Nat.le_trans hB1.size (Nat.le_trans hBa.size hgrow.size))
                have HF6 : Hid ((R ++ [m]).length ≤ k → ∀ (i R' n c : Nat), (us ++ [Value.slice (some ⟨gr, 0, none⟩) m.length capr])[i]? = some (Value.slice (some ⟨R', 0, none⟩) n c) → W1.heap.size ≤ R') := Lib.hid (fun q i R' n' c' h => by
                  have hq : R.length ≤ k := by simp at q; omega
                  by_cases hi : i < us.length
                  · rw [List.getElem?_append_left hi] at h
                    exact HF.out hq i R' n' c' h
                  · have hi2 := (List.getElem?_eq_some_iff.1 h).1
                    rw [List.length_append, List.length_singleton] at hi2
                    obtain rfl : i = us.length := by omega
                    rw [List.getElem?_append_right (Nat.le_refl _), Nat.sub_self] at h
                    simp only [List.getElem?_cons_zero, Option.some.injEq, Value.slice.injEq, Addr.mk.injEq, and_true] at h
                    have := h.1
                    omega)
                clear hP hown' hgrow hout5 hOA fO fO0
                go_wp2_with (fail)
                go_roundw
                case rel => exact ⟨R ++ [m], _, g', cap', by simp, by simp; omega, by simp, Lib.hid (tk_snoc HS.out (by rw [HMR.out]; exact HX.out)), HPP, HF6, HN6, hs6, hB9⟩
                case measure => simp [intOf]; omega
        · have hPl : R.length = n := by omega
          have irn : (n : Int) ≤ R.length := by omega
          have e := tk_end HS.out (by rw [HEL.out, hPl]; exact Nat.le_refl _)
          have HE := Lib.hid e
          clear e
          go_wp2_with (fail)
          go_ret
          refine ⟨_, us, rfl, ?_, hBw⟩
          rw [← HE.out]
          exact HO.out
end Go.Proofs.YtmcdkbnpcmiojaaGreat

namespace Go.Proofs.YtmcdkbnpcmiojaaGreat
open Go.ChangeShapes Go.WideShapes Go.ChangeAt Go.RowKit
set_option linter.unusedVariables false
set_option linter.unusedSimpArgs false
set_option maxRecDepth 100000

attribute [local irreducible] Calls
theorem bx_cells {w : World} {b o n c : Nat} {l : List (Int × Int)} (h : Bx w (.slice (some ⟨b, o, none⟩) n c) l) : ∀ j u, (cz l)[j]? = some u → w.cell? ((⟨b, o, none⟩ : Addr).add j) = some u := by
  obtain ⟨_, p, cap, e, hp⟩ := h
  simp only [Value.slice.injEq] at e
  obtain ⟨e1, _⟩ := e
  subst e1
  exact cz_cells4 hp
theorem own_cut0 {W : World} {B m : Nat} {v : Value} {xs : List Value} (h : W.ownsRow B 48 2 v m xs) (hm : 0 < m) : ∃ g c, v = .slice (some ⟨g, 0, none⟩) m c := by
  rcases h.2 with ⟨_, h0⟩ | ⟨g, cap, _, h, _⟩
  · omega
  · exact ⟨g, cap, h⟩
theorem OwnM.swapc {B O n c k p : Nat} {w : World} {us : List Value} {M : List (List (Int × Int))} {uk up : Value} {rk rp : List (Int × Int)} (h : OwnM B w (.slice (some ⟨O, 0, none⟩) n c) us M) (hn : M.length = n)
    (uk' : us[k]? = some uk) (up' : us[p]? = some up) (rk' : M[k]? = some rk) (rp' : M[p]? = some rp) :
    OwnM B ((w.setCell ⟨O, k, none⟩ up).setCell ⟨O, p, none⟩ uk) (.slice (some ⟨O, 0, none⟩) n c) ((us.set k up).set p uk) ((M.set k rp).set p rk) := by
  have hO := h.out
  rw [hn] at hO
  have s1 := hO.stored k up
  have s2 := s1.1.stored p uk
  refine ⟨?_, fun i r hr => ?_, fun i j R m c' m' c'' hi hj => ?_⟩
  · rw [List.length_set, List.length_set, hn]
    exact s2.1
  · rw [sw_get rk' rp'] at hr
    obtain ⟨O', R, c', c2, hv, hu, b1, b2, b3, b4, b5, hcell, hrow⟩ := h.at hr
    simp only [Value.slice.injEq, Option.some.injEq, Addr.mk.injEq, and_true] at hv
    rw [← hv.1] at b5
    exact ⟨R, c2, by rw [sw_get uk' up']; exact hu, (hrow.kept s1.2 (.inr (by simpa [Value.ownBlock] using fun e => b5 e.symm))).kept s2.2 (.inr (by simpa [Value.ownBlock] using fun e => b5 e.symm))⟩
  · rw [sw_get uk' up'] at hi hj
    have := h.far _ _ _ _ _ _ _ hi hj
    split at this <;> split at this <;> (try split at this) <;> (try split at this) <;> omega
theorem swap_turn {α : Type} {l : List α} {k p : Nat} {a b : α} (hk : l[k]? = some a) (hp : l[p]? = some b) : (l.set p a).set k b = (l.set k b).set p a := by
  apply List.ext_getElem?
  intro i
  rw [sw_get hk hp, sw_get hp hk]
  by_cases e1 : i = k
  · by_cases e2 : i = p
    · simp [e1, ← e2]
    · simp [e1, e2]
      rw [if_neg (fun h => e2 (e1.trans h))]
  · by_cases e2 : i = p
    · simp [e1, e2]
      rw [if_neg (fun h => e1 (e2.trans h))]
    · simp [e1, e2]
theorem own_base {B B' : Nat} {w : World} {v : Value} {us : List Value} {M : List (List (Int × Int))} (h : OwnM B' w v us M) (hb : B ≤ B') : OwnM B w v us M := by
  refine ⟨?_, fun i r hr => ?_, h.far⟩
  · rcases h.out.2 with ⟨e, e2⟩ | ⟨g, cap, cur, e, hg, r⟩
    · exact ⟨h.out.1, .inl ⟨e, e2⟩⟩
    · exact ⟨h.out.1, .inr ⟨g, cap, cur, e, Nat.le_trans hb hg, r⟩⟩
  · obtain ⟨R, c, h1, h2⟩ := h.row i r hr
    exact ⟨R, c, h1, own_mono h2 hb⟩
/-- The row that the reference's search has found, or -1. -/
def refI (M : List (List (Int × Int))) (k s : Nat) : Int := match refP M k s with | none => -1 | some q => q
theorem refP_ne (M : List (List (Int × Int))) (k : Nat) : ∀ (s q : Nat), refP M k s = some q → sgI (elI M q k) ≠ 0 ∧ q < k + s
  | 0, q, h => by cases h
  | s + 1, q, h => by
    unfold refP at h
    cases hp : refP M k s with
    | none =>
      rw [hp] at h
      dsimp only at h
      split at h
      · rename_i hs
        obtain rfl := Option.some.inj h
        exact ⟨hs, by omega⟩
      · cases h
    | some p =>
      rw [hp] at h
      dsimp only at h
      have ih := refP_ne M k s p hp
      split at h
      · rename_i hs
        obtain rfl := Option.some.inj h
        exact ⟨hs.1, by omega⟩
      · obtain rfl := Option.some.inj h
        exact ⟨ih.1, by omega⟩
theorem r2isE (x y : Int) (b : Bool) (w : World) (h : isE (x, y) = b) : Calls Tryz.prog 44 #[.agg #[.int .i64 x, .int .i64 y]] w fun e w' => e = .returned (.bool b) ∧ Below w.heap.size w w' := by
  unfold isE at h
  by_cases e : Ent x y
  · obtain ⟨rfl, rfl⟩ := e
    have : b = true := by rw [← h]; rfl
    subst this
    exact r2ent_yes w
  · have : b = false := by
      rw [← h]
      by_cases h1 : x = -2147483648
      · have h2 : ¬ y = 2147483648 := fun q => e ⟨h1, q⟩
        simp [h2]
      · simp [h1]
    subst this
    exact r2ent_no x y w e
def Inv2 (w : World) (M0 : List (List (Int × Int))) (O c n k : Nat) (us : List Value) (M : List (List (Int × Int))) (wr : World) : Prop :=
  OwnM w.heap.size wr (.slice (some ⟨O, 0, none⟩) n c) us M ∧ Wide n M ∧ invS n (n - k) k M = invV M0 n ∧ Below w.heap.size w wr
set_option maxHeartbeats 64000000 in
theorem r4inv (v : Value) (M : List (List (Int × Int))) (n : Nat) (w : World) (hv : Mx w v M) (hM : Sq n M) (h1 : 1 ≤ n) (h6 : n ≤ 6) :
    Calls Tryz.prog 11 #[v] w (InvEnd w M n) := by
  obtain ⟨i0, hi, hz0, hz1, hz2⟩ := info_parts info_iv
  obtain ⟨p0, pi, pz0, pz1, pz2⟩ := info_parts info_row
  obtain ⟨pv, cv, rfl⟩ := hv.shape hM.1
  have HV := Lib.hid hv
  have HM := Lib.hid hM
  obtain ⟨C, hC⟩ : ∃ C, augM M n = C := ⟨_, rfl⟩
  have hCl : C.length = n := by rw [← hC]; simp [augM]
  have hCat : ∀ i s, i < n → M[i]? = some s → C[i]? = some (s ++ rowOf idF n i) := fun i s hi hs => by
    rw [← hC]
    unfold augM
    rw [List.getElem?_map, List.getElem?_range hi, Option.map_some]
    unfold augF
    rw [hs]
    rfl
  have hCw : Wide n C := by rw [← hC]; exact aug_wide hM
  have hCi : invV M n = invS n n 0 C := by rw [← hC]; rfl
  have HCL := Lib.hid hCl
  have HCAT := Lib.hid hCat
  have HCW := Lib.hid hCw
  have HCI := Lib.hid hCi
  have n0 : (0 : Int) < n := by omega
  clear hv hM hC hCl hCat hCw hCi
  go_enter Tryz.func11, Tryz.ntmps11
  go_wp2_with (fail)
  have hW : Below w.heap.size w (w.alloc (.cells #[] 22)) := (Below.refl _ _).alloc (Nat.le_refl _) _
  refine (r4ident n _ h1 h6).mono ?_
  rintro e w1 ⟨vt, ut, rfl, ht, hB1⟩
  obtain ⟨ot, ct, rfl⟩ := own_cutM ht (show (matOf idF n).length = n by simp [matOf]) h1
  have hsa : (w.alloc (.cells #[] 22)).heap.size = w.heap.size + 1 := by simp
  rw [hsa] at ht
  have hz1' : w.heap.size + 1 ≤ w1.heap.size := by rw [← hsa]; exact hB1.size
  have hT1 := below_then hW hB1
  have hO0 : OwnM w.heap.size w1 (.slice (some ⟨w.heap.size, 0, none⟩) 0 0) [] [] := (⟨by simpa using World.ownsRow_made (e := 22) (size := 1) w #[] 0 (Nat.le_refl _) (by decide) rfl, fun i r h => by simp at h, fun i j R n c n' c' h => by simp at h⟩ : OwnM w.heap.size (w.alloc (.cells #[] 22)) (.slice (some ⟨w.heap.size, 0, none⟩) 0 0) [] []).kept hB1
  have HT := Lib.hid ht
  have HO0 := Lib.hid hO0
  clear ht hO0 hB1 hsa
  go_wp2_with (fail)
  go_loopw [5, 7] (fun u i wr => ∃ (R : List (List (Int × Int))) (us : List Value) (g cap : Nat), i = .int .i64 R.length ∧ R.length ≤ n ∧ u = .slice (some ⟨g, 0, none⟩) R.length cap ∧ Hid (R = C.take R.length) ∧ Hid (OwnM w.heap.size wr u us R) ∧ (g = w.heap.size ∨ w1.heap.size ≤ g) ∧ Hid (w1.grownBy wr (some w.heap.size)) ∧ Below w.heap.size w wr) (fun _ i _ => n - (intOf i).toNat)
  case atStart => exact ⟨[], [], w.heap.size, 0, rfl, Nat.zero_le _, rfl, Lib.hid (by simp), HO0, .inl rfl, Lib.hid ⟨rfl, rfl, rfl, Nat.le_refl _, fun _ _ _ => rfl⟩, hT1⟩
  case round =>
    clear HO0
    obtain ⟨R, us, g, cap, rfl, hPn, rfl, HS, HO, hgg, HG, hBw⟩ := hrel
    by_cases hlt : R.length < n
    · have ik : (R.length : Int) < n := by omega
      obtain ⟨s, hs⟩ : ∃ s, M[R.length]? = some s := ⟨_, List.getElem?_eq_getElem (by rw [HM.out.1]; exact hlt)⟩
      obtain ⟨hsl, hsv⟩ := HM.out.2 s (List.mem_of_getElem? hs)
      have HX : Hid (C[R.length]? = some (s ++ rowOf idF n R.length)) := Lib.hid (HCAT.out _ s hlt hs)
      obtain ⟨bO, oO, bI, oI, cI, rfl, hbO, hcI, hbxI⟩ := mx_at HV.out hs hsl (by omega)
      have fO := hcI ⟨wr, hBw⟩
      dsimp only at fO
      have hbOw : bO < wr.heap.size := Nat.lt_of_lt_of_le hbO hBw.size
      have hT := HT.out.keptBy HG.out (by omega)
      have hid : (matOf idF n)[R.length]? = some (rowOf idF n R.length) := by unfold matOf; rw [List.getElem?_map, List.getElem?_range hlt]; rfl
      obtain ⟨ot', Rt, ct', ct2, et, hut, t1, t2, t3, t4, t5, tcell, trow⟩ := hT.at hid
      simp only [Value.slice.injEq, Option.some.injEq, Addr.mk.injEq, and_true] at et
      have eet := et.1
      subst eet
      clear et
      obtain ⟨dr, hdr⟩ : ∃ dr, rowOf idF n R.length = dr := ⟨_, rfl⟩
      have hdl : dr.length = n := by rw [← hdr]; simp [rowOf]
      rw [hdr] at HX trow tcell
      rw [hdl] at trow tcell
      have hbxT : Bx wr (.slice (some ⟨Rt, 0, none⟩) n ct2) dr := by
        have := Bx.own (l := dr) (by rw [hdl]; exact trow) (by rw [hdl]; unfold maxLen; omega)
        exact this
      have hrl : (s ++ dr).length = n + n := by rw [List.length_append, hsl, hdl]
      have hwa : Below wr.heap.size wr (wr.alloc (.cells #[] 48)) := (Below.refl _ _).alloc (Nat.le_refl _) _
      have hCS := bx_cells ((hbxI.grow hBw).grow hwa)
      have hown0 : (wr.alloc (.cells #[] 48)).ownsRow wr.heap.size 48 2 (.slice (some ⟨wr.heap.size, 0, none⟩) 0 0) 0 [] := by simpa using World.ownsRow_made (e := 48) (size := 2) wr #[] 0 (Nat.le_refl _) (by decide) rfl
      have hczl := cz_len s
      have hczd := cz_len dr
      have HCS := Lib.hid hCS
      have HOW0 := Lib.hid hown0
      have HCZL : Hid ((cz s).length = n * 2) := Lib.hid (by rw [cz_len, hsl])
      have HCZD : Hid ((cz dr).length = n * 2) := Lib.hid (by rw [cz_len, hdl])
      have HBT := Lib.hid hbxT
      have HRL := Lib.hid hrl
      have HTC := Lib.hid tcell
      have hszw := hBw.size
      clear hs hsl hsv hcI hbxI hT hid hut trow hdr hdl hbxT hrl hCS hown0 hczl hczd tcell
      go_wp2_with (at_builtin; refine wpList_append_own _ rfl (.tmp 27) (.tmp 31) 22 rfl wr.heap.size 48 i0 (.agg #[.int .i64 0, .int .i64 0]) 2 16 Tryz.underlying22 hi hz0 hz1 hz2 rfl (by decide) (.slice (some ⟨wr.heap.size, 0, none⟩) 0 0) 0 [] rfl HOW0.out ⟨bI, oI, none⟩ n cI (cz s) rfl HCZL.out HCS.out (cz_one4 s) (by unfold maxLen; omega) (by omega) (by simp) ?_)
      intro v5 w5 hown5 hgrow5 _
      replace hown5 : w5.ownsRow wr.heap.size 48 2 v5 n (cz s) := by simpa using hown5
      obtain ⟨g5, c5, rfl⟩ := own_cut0 hown5 (by omega)
      have hB5 : Below wr.heap.size wr w5 := Below.grown hwa hgrow5 (by simp) (fun q hq => by simp only [Value.ownBlock, Option.some.injEq] at hq; omega)
      have fT5 := (hB5.cell (p := ⟨ot, R.length, none⟩) t2).trans HTC.out
      have hCT := bx_cells (HBT.out.grow hB5)
      have HOW5 := Lib.hid hown5
      have HCT := Lib.hid hCT
      have hg5 := hB5.size
      clear hown5 hgrow5 hCT fO
      go_wp2_with (at_builtin; refine wpList_append_own _ rfl (.tmp 33) (.tmp 37) 22 rfl wr.heap.size 48 i0 (.agg #[.int .i64 0, .int .i64 0]) 2 16 Tryz.underlying22 hi hz0 hz1 hz2 rfl (by decide) (.slice (some ⟨g5, 0, none⟩) n c5) n (cz s) rfl HOW5.out ⟨Rt, 0, none⟩ n ct2 (cz dr) rfl HCZD.out HCT.out (cz_one4 dr) (by unfold maxLen; omega) (by omega) hg5 ?_)
      intro v6 w6 hown6 hgrow6 _
      rw [← cz_append] at hown6
      obtain ⟨g6, c6, rfl⟩ := own_cut0 hown6 (by omega)
      have hB6 : Below wr.heap.size wr w6 := Below.grown hB5 hgrow6 hg5 (fun q hq => (HOW5.out.lt q hq).1)
      have hg6 := (hown6.lt g6 rfl).1
      have HFA := Lib.hid (far_new HO.out hg6)
      have hO6 := HO.out.kept hB6
      have hout6 := hO6.out
      have hBw6 := below_then hBw hB6
      have hrowB := own_mono (B := w.heap.size) hown6 hszw
      have hsz6 := hBw6.size
      have HO6 := Lib.hid hO6
      have HRB := Lib.hid hrowB
      clear hO6 hrowB hown6 hgrow6 fT5 hg5
      go_wp2_with (at_builtin; refine wpList_append_own_at _ rfl (.tmp 39) (.tmp 41) 25 rfl w.heap.size 22 p0 (.slice none 0 0) 1 24 Tryz.underlying25 pi pz0 pz1 pz2 rfl (by decide) (.slice (some ⟨g, 0, none⟩) R.length cap) R.length _ rfl (hout6.alloc _) ⟨w6.heap.size, 0, none⟩ 1 1 [.slice (some ⟨g6, 0, none⟩) (n + n) c6] rfl rfl (new_one _ _ _) (one_sl _ _ _) (by unfold maxLen; omega) (by omega) (by first | omega | (simp; omega)) ?_)
      have hBa : Below w6.heap.size w6 (w6.alloc (.cells #[Value.slice (some ⟨g6, 0, none⟩) (n + n) c6] 22)) := (Below.refl _ _).alloc (Nat.le_refl _) _
      intro v' w7 hown' hgrow _ hat
      obtain ⟨g', cap', rfl⟩ := ownsRow_succ hown'
      have hP : OwnM w.heap.size w7 (.slice (some ⟨g', 0, none⟩) (R.length + 1) cap') (us ++ [.slice (some ⟨g6, 0, none⟩) (n + n) c6]) (R ++ [s ++ dr]) := by
        have := OwnM.push (r := s ++ dr) (HO6.out.kept hBa) (by rw [HRL.out]; exact HRB.out.kept (grown_below hBa) (.inr (by simp [Value.ownBlock]))) HFA.out (by rw [HRL.out]; exact hown') hgrow
        rw [HRL.out] at this
        exact this
      have HPP := Lib.hid hP
      have hB9 : Below w.heap.size w w7 := Below.grown (hBw6.trans (hBa.mono hsz6)) hgrow (by first | omega | (simp; omega)) (fun q hq => (hout6.lt q hq).1)
      have hg2 : g' = w.heap.size ∨ w1.heap.size ≤ g' := by
        simp only [Value.ownBlock, Option.some.injEq] at hat
        rcases hat with e | e
        · rw [e]; exact hgg
        · right
          rw [e]
          have a1 := HG.out.size
          have a2 := hB6.size
          have a3 := hBa.size
          omega
      have HG2 := Lib.hid (grow_off HG.out (below_then hB6 hBa) hgrow hgg)
      clear hP hown' hgrow hout6 hat
      go_wp2_with (fail)
      go_roundw
      case rel => exact ⟨R ++ [s ++ dr], _, g', cap', by simp, by simp; omega, by simp, Lib.hid (tk_snoc HS.out HX.out), HPP, hg2, HG2, hB9⟩
      case measure => simp [intOf]; omega
    · have hPl : R.length = n := by omega
      have e := tk_end HS.out (by rw [HCL.out, hPl]; exact Nat.le_refl _)
      have hI0 : Hid (Inv2 w M g cap n 0 us C wr) := Lib.hid ⟨by rw [← hPl]; rw [← e]; exact HO.out, HCW.out, by rw [Nat.sub_zero]; exact HCI.out.symm, hBw⟩
      rw [hPl]
      clear hPl e HO HS
      go_wp2_with (fail)
      go_loopw [5, 9] (fun u i wr => ∃ (k : Nat) (us : List Value) (N : List (List (Int × Int))) (O c : Nat), i = .int .i64 k ∧ k ≤ n ∧ u = .slice (some ⟨O, 0, none⟩) n c ∧ Hid (Inv2 w M O c n k us N wr)) (fun _ i _ => n - (intOf i).toNat)
      case atStart => exact ⟨0, us, C, g, cap, rfl, Nat.zero_le _, rfl, hI0⟩
      case round =>
        clear hI0
        obtain ⟨k, us, N, O, c, rfl, hk, rfl, HI⟩ := hrel
        by_cases hkn : k < n
        · have ikn : (k : Int) < n := by omega
          have ik2 : (k : Int) < ((n + n : Nat) : Int) := by omega
          obtain ⟨W2, hW2⟩ : ∃ W, W = wr := ⟨_, rfl⟩
          subst hW2
          have el : Hid (∀ i, i < n → ∃ (R c2 : Nat) (x y : Int), elI N i k = (x, y) ∧ VB (x, y) ∧ ∀ g : Grown W2, g.w.cell? ⟨O, i, none⟩ = some (.slice (some ⟨R, 0, none⟩) (n + n) c2) ∧ g.w.cell? ⟨R, k * 2, none⟩ = some (.int .i64 x) ∧ g.w.cell? ⟨R, k * 2 + 1, none⟩ = some (.int .i64 y)) := Lib.hid (fun i hi => by
            obtain ⟨hO, hWd, _, _⟩ := HI.out
            obtain ⟨r, hr⟩ : ∃ r, N[i]? = some r := ⟨_, List.getElem?_eq_getElem (by rw [hWd.1]; exact hi)⟩
            obtain ⟨hrl, hrv⟩ := hWd.2 r (List.mem_of_getElem? hr)
            obtain ⟨O', R, c', c2, ev, hu, b1, b2, b3, b4, b5, hcell, hrow⟩ := hO.at hr
            simp only [Value.slice.injEq, Option.some.injEq, Addr.mk.injEq, and_true] at ev
            have eev := ev.1
            subst eev
            clear ev
            rw [hrl] at hcell
            obtain ⟨x, y, hx⟩ : ∃ x y, r[k]? = some (x, y) := ⟨(r[k]'(by omega)).1, (r[k]'(by omega)).2, List.getElem?_eq_getElem _⟩
            have q0 := hrow.cellAt (k * 2) (by omega)
            have q1 := hrow.cellAt (k * 2 + 1) (by omega)
            rw [(cz_get _ _ _ hx).1] at q0
            rw [(cz_get _ _ _ hx).2] at q1
            exact ⟨R, c2, x, y, by simp [elI, hr, hx], hrv _ (List.mem_of_getElem? hx), fun g => ⟨(g.cell b2).trans hcell, (g.cell b4).trans q0, (g.cell b4).trans q1⟩⟩)
          go_wp2_with (fail)
          go_loopw [10, 11] (fun p i wr => ∃ s : Nat, p = .int .i64 (refI N k s) ∧ i = .int .i64 ((k + s : Nat) : Int) ∧ k + s ≤ n ∧ ∃ g : Grown W2, wr = g.w) (fun _ i _ => n - (intOf i).toNat)
          case atStart => exact ⟨0, rfl, by simp, by omega, ⟨W2, Below.refl _ _⟩, rfl⟩
          case round =>
            obtain ⟨s, rfl, rfl, hs, g0, rfl⟩ := hrel
            by_cases hsn : k + s < n
            · obtain ⟨R, c2, x, y, hxy, hvb, rd⟩ := el.out (k + s) hsn
              have fA := fun g => (rd g).1
              have fB := fun g => (rd g).2.1
              have fC := fun g => (rd g).2.2
              have i1 : ((k + s : Nat) : Int) < n := by omega
              obtain ⟨sv, hsv⟩ : ∃ sv, sg x y = sv := ⟨_, rfl⟩
              have hsI : sgI (elI N (k + s) k) = sv := by rw [hxy]; exact hsv
              have hcs := fun w => r2sign x y w
              rw [hsv] at hcs
              have HSG := Lib.hid hcs
              clear rd hcs
              by_cases hs0 : sv = 0
              · have hn : refI N k (s + 1) = refI N k s := by
                  unfold refI
                  rw [refP]
                  cases hp : refP N k s with
                  | none => dsimp only; rw [if_neg (fun q => q (by rw [hsI]; exact hs0))]
                  | some q => dsimp only; rw [if_neg (fun q => q.1 (by rw [hsI]; exact hs0))]
                have HN := Lib.hid hn
                subst hs0
                clear hn hsI hxy hvb hsv
                generalize refI N k s = pp at *
                generalize hq : k + s = q at *
                go_wp2_with (fail)
                refine region_quiet' g0 (by kernel_rfl) (by kernel_rfl) ?_
                repeat (go_big_quiet_step (first | exact qc (HSG.out _)))
                refine wpQuiet_nil ?_
                rintro _ ⟨g1, rfl⟩
                go_wp2_with (fail)
                go_roundw
                case rel => exact ⟨s + 1, by rw [HN.out], by rw [← hq]; go_num, by omega, g1, rfl⟩
                case measure => simp [intOf]; omega
              · have hsb : (sv != 0) = true := by simpa using hs0
                have hsne : sgI (elI N (k + s) k) ≠ 0 := by rw [hsI]; exact hs0
                cases hp : refP N k s with
                | none =>
                  have hpi : refI N k s = -1 := by unfold refI; rw [hp]
                  have hn : refI N k (s + 1) = ((k + s : Nat) : Int) := by unfold refI; rw [refP, hp]; dsimp only; rw [if_pos hsne]
                  have HN := Lib.hid hn
                  rw [hpi]
                  clear hn hsI hxy hvb hsv hp hpi hsne
                  generalize hq : k + s = q at *
                  go_wp2_with (fail)
                  refine region_quiet' g0 (by kernel_rfl) (by kernel_rfl) ?_
                  repeat (go_big_quiet_step (first | exact qc (HSG.out _)))
                  refine wpQuiet_nil ?_
                  rintro _ ⟨g1, rfl⟩
                  go_wp2_with (fail)
                  go_roundw
                  case rel => exact ⟨s + 1, by rw [HN.out], by rw [← hq]; go_num, by omega, g1, rfl⟩
                  case measure => simp [intOf]; omega
                | some pq =>
                  have hpi : refI N k s = (pq : Int) := by unfold refI; rw [hp]
                  obtain ⟨hqs, hqn⟩ := refP_ne N k s pq hp
                  obtain ⟨R', c2', x', y', hxy', hvb', rd'⟩ := el.out pq (by omega)
                  have gA := fun g => (rd' g).1
                  have gB := fun g => (rd' g).2.1
                  have gC := fun g => (rd' g).2.2
                  have i2 : (pq : Int) < n := by omega
                  have i3 : decide ((pq : Int) < 0) = false := decide_eq_false (by omega)
                  have HM1 := Lib.hid (fun w => mig4 x y w hvb (by rw [← hxy]; exact hsne))
                  have HM2 := Lib.hid (fun w => mig4 x' y' w hvb' (by rw [← hxy']; exact hqs))
                  have hn : refI N k (s + 1) = if migI (x', y') < migI (x, y) then ((k + s : Nat) : Int) else (pq : Int) := by
                    unfold refI
                    rw [refP, hp]
                    dsimp only
                    rw [hxy', hxy]
                    by_cases hm : migI (x', y') < migI (x, y)
                    · rw [if_pos ⟨by rw [← hxy]; exact hsne, hm⟩, if_pos hm]
                    · rw [if_neg (fun q => hm q.2), if_neg hm]
                  have HN := Lib.hid hn
                  rw [hpi]
                  clear rd' hn hsI hxy hxy' hvb hvb' hsv hp hpi hsne hqs
                  generalize migI (x, y) = m1 at *
                  generalize migI (x', y') = m2 at *
                  generalize hq : k + s = q at *
                  by_cases hd : m2 < m1
                  · go_wp2_with (fail)
                    refine region_quiet' g0 (by kernel_rfl) (by kernel_rfl) ?_
                    repeat (go_big_quiet_step (first | exact qc (HSG.out _) | exact qc (HM1.out _) | exact qc (HM2.out _)))
                    refine wpQuiet_nil ?_
                    rintro _ ⟨g1, rfl⟩
                    go_wp2_with (fail)
                    go_roundw
                    case rel => exact ⟨s + 1, by rw [HN.out, if_pos hd], by rw [← hq]; go_num, by omega, g1, rfl⟩
                    case measure => simp [intOf]; omega
                  · have hd' : m1 ≤ m2 := by omega
                    go_wp2_with (fail)
                    refine region_quiet' g0 (by kernel_rfl) (by kernel_rfl) ?_
                    repeat (go_big_quiet_step (first | exact qc (HSG.out _) | exact qc (HM1.out _) | exact qc (HM2.out _)))
                    refine wpQuiet_nil ?_
                    rintro _ ⟨g1, rfl⟩
                    go_wp2_with (fail)
                    go_roundw
                    case rel => exact ⟨s + 1, by rw [HN.out, if_neg (by omega)], by rw [← hq]; go_num, by omega, g1, rfl⟩
                    case measure => simp [intOf]; omega
            · have hsn' : k + s = n := by omega
              obtain ⟨hO, hWd, hS, hBw2⟩ := HI.out
              have hst : s = (N.length - (k + 1)) + 1 := by rw [hWd.1]; omega
              have hrp : refP N k s = if sgI (elI N (pivV N k) k) = 0 then none else some (pivV N k) := by rw [hst]; exact refP_bst N k _
              have hnk : n - k = (n - (k + 1)) + 1 := by omega
              have hS2 : (if sgI (elI N (pivV N k) k) = 0 then none else invS n (n - (k + 1)) (k + 1) (invStep N k)) = invV M n := by rw [← hS, hnk, invS]
              have hBz := below_then hBw2 g0.h
              have i1 : (n : Int) ≤ ((k + s : Nat) : Int) := by omega
              by_cases hsg : sgI (elI N (pivV N k) k) = 0
              · rw [if_pos hsg] at hrp hS2
                have hpi : refI N k s = -1 := by unfold refI; rw [hrp]
                rw [hpi]
                have HN := Lib.hid hS2
                clear hO hWd hS hst hrp hnk hS2 hsg hpi
                go_wp2_with (fail)
                go_ret2
                exact ⟨fun N' h => (by rw [← HN.out] at h; cases h), fun _ => rfl, hBz⟩
              · rw [if_neg hsg] at hrp hS2
                have hpi : refI N k s = (pivV N k : Int) := by unfold refI; rw [hrp]
                have hpl := bst_le N k (N.length - (k + 1))
                obtain ⟨p, hp⟩ : ∃ p, pivV N k = p := ⟨_, rfl⟩
                have hpk : k ≤ p ∧ p < n := by
                  have e : pivV N k = bst N k (N.length - (k + 1)) := rfl
                  rw [← e, hp, hWd.1] at hpl
                  omega
                rw [hpi, hp]
                have ip : (p : Int) < n := by omega
                have ip0 : decide ((p : Int) < 0) = false := decide_eq_false (by omega)
                obtain ⟨rp, hrp'⟩ : ∃ r, N[p]? = some r := ⟨_, List.getElem?_eq_getElem (by rw [hWd.1]; exact hpk.2)⟩
                obtain ⟨rk, hrk⟩ : ∃ r, N[k]? = some r := ⟨_, List.getElem?_eq_getElem (by rw [hWd.1]; exact hkn)⟩
                obtain ⟨hrpl, hrpv⟩ := hWd.2 rp (List.mem_of_getElem? hrp')
                obtain ⟨hrkl, hrkv⟩ := hWd.2 rk (List.mem_of_getElem? hrk)
                have hO4 := hO.kept g0.h
                obtain ⟨O', R, c', c2, ev, hu, b1, b2, b3, b4, b5, hcell, hrow⟩ := hO4.at hrp'
                simp only [Value.slice.injEq, Option.some.injEq, Addr.mk.injEq, and_true] at ev
                have eev := ev.1
                subst eev
                clear ev
                obtain ⟨O', R2, c'', c3, ev, hu2, _, _, d3, d4, d5, hcell2, hrow2⟩ := hO4.at hrk
                simp only [Value.slice.injEq, Option.some.injEq, Addr.mk.injEq, and_true] at ev
                have eev := ev.1
                subst eev
                clear ev
                rw [hrpl] at hcell hu
                rw [hrkl] at hcell2 hu2
                have hO5' := hO4.out
                rw [hWd.1] at hO5'
                have z0 := hO5'.frozenAt p
                have s1 := (hO5'.stored p (.slice (some ⟨R2, 0, none⟩) (n + n) c3)).1
                have y1 := s1.frozenAt k
                have y0 := s1.cellAt k (by omega)
                obtain ⟨uu, huu⟩ : ∃ u, (us.set p (.slice (some ⟨R2, 0, none⟩) (n + n) c3))[k]? = some u := ⟨_, List.getElem?_eq_getElem (by have := hO5'.1; rw [List.length_set]; omega)⟩
                rw [huu] at y0
                have hsw := hO4.swapc hWd.1 hu hu2 hrp' hrk
                have hsm : (N.set p rk).set k rp = swapM N k p := by
                  rw [swap_turn hrk hrp']
                  unfold swapM
                  rw [hrp', hrk]
                  rfl
                rw [hsm] at hsw
                have hWs := swap_wide hWd hkn hpk.2
                have hBs : Below w.heap.size w ((g0.w.setCell ⟨O, p, none⟩ (.slice (some ⟨R2, 0, none⟩) (n + n) c3)).setCell ⟨O, k, none⟩ (.slice (some ⟨R, 0, none⟩) (n + n) c2)) := (hBz.setCell (p := ⟨O, p, none⟩) b1 _).setCell (p := ⟨O, k, none⟩) b1 _
                have HSW := Lib.hid hsw
                have HWS := Lib.hid hWs
                have HS2 := Lib.hid hS2
                have HPP := Lib.hid hp
                clear hO hWd hS hst hrp hnk hS2 hsg hpi hpl hp hrp' hrk hrpl hrpv hrkl hrkv hO4 hu hu2 hrow hrow2 hO5' s1 huu hsw hsm hWs
                go_wp2_with (fail)
                obtain ⟨WS, hWS⟩ : ∃ WS, (g0.w.setCell ⟨O, p, none⟩ (.slice (some ⟨R2, 0, none⟩) (n + n) c3)).setCell ⟨O, k, none⟩ (.slice (some ⟨R, 0, none⟩) (n + n) c2) = WS := ⟨_, rfl⟩
                rw [hWS] at HSW hBs
                rw [hWS]
                have hmx := HSW.out.mx (by rw [HWS.out.1]; unfold maxLen; omega) (fun r hr => by rw [(HWS.out.2 r hr).1]; unfold maxLen; omega)
                refine (r4elim _ (swapM N k p) n (n + n) k _ hmx HWS.out.1 HWS.out.2 hkn (by omega) h6 (by omega)).mono ?_
                rintro e w6 ⟨u6, us6, rfl, hO6, hB6⟩
                have hEl : (elimM (swapM N k p) k).length = n := by rw [elim_len, HWS.out.1]
                obtain ⟨O6, c6, rfl⟩ := own_cutM hO6 hEl h1
                have hI6 : Hid (Inv2 w M O6 c6 n (k + 1) us6 (invStep N k) w6) := Lib.hid ⟨by unfold invStep; rw [HPP.out]; exact own_base hO6 hBs.size, by unfold invStep; rw [HPP.out]; exact elim_wide HWS.out hkn, HS2.out, below_then hBs hB6⟩
                clear hO6 hEl y0 y1 z0 hcell hcell2 hWS hmx
                go_wp2_with (fail)
                go_roundw
                case rel => exact ⟨k + 1, _, _, _, _, by go_num, by omega, rfl, hI6⟩
                case measure => simp [intOf]; omega
        · obtain rfl : k = n := by omega
          obtain ⟨hO, hWd, hS, hBw2⟩ := HI.out
          rw [Nat.sub_self, invS] at hS
          have HS := Lib.hid hS
          have HO := Lib.hid hO
          have HWD := Lib.hid hWd
          obtain ⟨W4, hW4⟩ : ∃ W, W = wr := ⟨_, rfl⟩
          subst hW4
          have hb0 : Below W4.heap.size W4 (W4.alloc (.cells #[] 22)) := (Below.refl _ _).alloc (Nat.le_refl _) _
          have HOW0 : Hid ((W4.alloc (.cells #[] 22)).ownsRow W4.heap.size 22 1 (.slice (some ⟨W4.heap.size, 0, none⟩) 0 0) 0 []) := Lib.hid (by simpa using World.ownsRow_made (e := 22) (size := 1) W4 #[] 0 (Nat.le_refl _) (by decide) rfl)
          clear hO hWd hS HI
          go_wp2_with (fail)
          go_loopw [13, 14] (fun u i wr => ∃ (d : Nat) (vs : List Value) (g cap : Nat), i = .int .i64 d ∧ d ≤ k ∧ u = .slice (some ⟨g, 0, none⟩) d cap ∧ Hid (wr.ownsRow W4.heap.size 22 1 (.slice (some ⟨g, 0, none⟩) d cap) d vs) ∧ Hid (∀ (j : Nat) (u : Value) (x : List (Int × Int)), vs[j]? = some u → (N.map fun r => r.drop k)[j]? = some x → Bx W4 u x) ∧ Hid (noE k (N.take d) = true) ∧ Below W4.heap.size W4 wr) (fun _ i _ => k - (intOf i).toNat)
          case atStart => exact ⟨0, [], W4.heap.size, 0, rfl, Nat.zero_le _, rfl, HOW0, Lib.hid (fun j u x h => by simp at h), Lib.hid (by simp [noE]), hb0⟩
          case round =>
            clear HOW0 hb0
            obtain ⟨d, vs, g, cap, rfl, hd, rfl, HOW, HBX, HNO, hB4⟩ := hrel
            by_cases hdk : d < k
            · have idk : (d : Int) < k := by omega
              obtain ⟨r, hr⟩ : ∃ r, N[d]? = some r := ⟨_, List.getElem?_eq_getElem (by rw [HWD.out.1]; exact hdk)⟩
              obtain ⟨hrl, hrv⟩ := HWD.out.2 r (List.mem_of_getElem? hr)
              obtain ⟨O', R, c', c2, ev, hu, b1, b2, b3, b4, b5, hcell, hrow⟩ := HO.out.at hr
              simp only [Value.slice.injEq, Option.some.injEq, Addr.mk.injEq, and_true] at ev
              have eev := ev.1
              subst eev
              clear ev
              have hc : k + k ≤ c2 := by
                rcases hrow.2 with ⟨e, e2⟩ | ⟨g, cap, cur, e, _, _, hle, _⟩
                · omega
                · simp only [Value.slice.injEq, Option.some.injEq, Addr.mk.injEq, true_and, and_true] at e
                  omega
              have hbd := bx_drop hrow hrl h6 (c2 - k)
              rw [hrl] at hcell
              have HR := Lib.hid hr
              have HRL := Lib.hid hrl
              have HBD := Lib.hid hbd
              have HROW := Lib.hid hrow
              have HCELL := Lib.hid hcell
              have hcap : ¬ (c2 = k) := by omega
              obtain ⟨W5, hW5⟩ : ∃ W, W = wr := ⟨_, rfl⟩
              subst hW5
              clear hr hrl hrv hu hrow hbd hcell
              go_wp2_with (fail)
              go_loopw [15] (fun i wr => ∃ t : Nat, i = .int .i64 ((k + t : Nat) : Int) ∧ t ≤ k ∧ Hid (((r.drop k).take t).any isE = false) ∧ ∃ g : Grown W5, wr = g.w) (fun i _ => k + k - (intOf i).toNat)
              case atStart => exact ⟨0, by simp, Nat.zero_le _, Lib.hid (by simp), ⟨W5, Below.refl _ _⟩, rfl⟩
              case round =>
                obtain ⟨t, rfl, ht, HA, g0, rfl⟩ := hrel
                have hBg := below_then hB4 g0.h
                have fO := (hBg.cell (p := ⟨O, d, none⟩) b2).trans HCELL.out
                by_cases htk : t < k
                · obtain ⟨x, y, hx⟩ : ∃ x y, r[k + t]? = some (x, y) := ⟨(r[k + t]'(by rw [HRL.out]; omega)).1, (r[k + t]'(by rw [HRL.out]; omega)).2, List.getElem?_eq_getElem _⟩
                  have hx2 : (r.drop k)[t]? = some (x, y) := by rw [List.getElem?_drop]; exact hx
                  have q0 := HROW.out.cellAt ((k + t) * 2) (by rw [HRL.out]; omega)
                  have q1 := HROW.out.cellAt ((k + t) * 2 + 1) (by rw [HRL.out]; omega)
                  rw [(cz_get _ _ _ hx).1] at q0
                  rw [(cz_get _ _ _ hx).2] at q1
                  dsimp only at q0 q1
                  have f0 := (hBg.cell (p := ⟨R, (k + t) * 2, none⟩) b4).trans q0
                  have f1 := (hBg.cell (p := ⟨R, (k + t) * 2 + 1, none⟩) b4).trans q1
                  have i1 : ((k + t : Nat) : Int) < ((k + k : Nat) : Int) := by omega
                  have i2 : ((k + t : Nat) : Int) < 2 * (k : Int) := by omega
                  cases hb : isE (x, y) with
                  | true =>
                    have HC := Lib.hid (fun w => r2isE x y true w hb)
                    have HZ := Lib.hid (noE_no HR.out (any_yes hx2 hb))
                    clear q0 q1 hx hx2 hb
                    generalize hq : k + t = q at *
                    go_wp2_with (fail)
                    refine (HC.out _).mono ?_
                    rintro e w9 ⟨rfl, hB9⟩
                    have hs := HS.out
                    rw [HZ.out] at hs
                    have HN := Lib.hid hs
                    clear hs
                    go_wp2_with (fail)
                    go_ret2
                    exact ⟨fun N' h => (by rw [← HN.out] at h; cases h), fun _ => rfl, below_then hBw2 (below_then hBg hB9)⟩
                  | false =>
                    have HC := Lib.hid (fun w => r2isE x y false w hb)
                    have HA2 : Hid (((r.drop k).take (t + 1)).any isE = false) := Lib.hid (any_take_no HA.out hx2 hb)
                    clear q0 q1 hx hx2 hb
                    generalize hq : k + t = q at *
                    go_wp2_with (fail)
                    refine (HC.out _).mono ?_
                    rintro e w9 ⟨rfl, hB9⟩
                    obtain ⟨g9, rfl⟩ := grow g0 hB9
                    go_wp2_with (fail)
                    go_roundw
                    case rel => exact ⟨t + 1, by rw [← hq]; go_num, by omega, HA2, g9, rfl⟩
                    case measure => simp [intOf]; omega
                · obtain rfl : t = k := by omega
                  have hany : (r.drop t).any isE = false := by
                    have := HA.out
                    rw [List.take_of_length_le (by rw [List.length_drop, HRL.out]; omega)] at this
                    exact this
                  have hno2 := noE_snoc HR.out hany HNO.out
                  have HNO2 := Lib.hid hno2
                  have hown := HOW.out.kept (grown_below g0.h) (.inr (by simp [Value.ownBlock]))
                  have hsz4 := hBg.size
                  have i3 : 2 * (t : Int) ≤ ((t + t : Nat) : Int) := by omega
                  clear hany hno2 HA
                  go_wp2_with (at_builtin; refine wpList_append_own _ rfl (.tmp 128) (.tmp 135) 25 rfl W4.heap.size 22 p0 (.slice none 0 0) 1 24 Tryz.underlying25 pi pz0 pz1 pz2 rfl (by decide) (.slice (some ⟨g, 0, none⟩) d cap) d _ rfl (hown.alloc _) ⟨g0.w.heap.size, 0, none⟩ 1 1 [.slice (some ⟨R, t * 2, none⟩) t (c2 - t)] rfl rfl (new_one _ _ _) (one_sl _ _ _) (by unfold maxLen; omega) (by omega) (by first | omega | (simp; omega)) ?_)
                  have hBa : Below g0.w.heap.size g0.w (g0.w.alloc (.cells #[Value.slice (some ⟨R, t * 2, none⟩) t (c2 - t)] 22)) := (Below.refl _ _).alloc (Nat.le_refl _) _
                  intro v' w7 hown' hgrow _
                  obtain ⟨g', cap', rfl⟩ := ownsRow_succ hown'
                  have hB9 : Below W4.heap.size W4 w7 := Below.grown (hBg.trans (hBa.mono hsz4)) hgrow (by first | omega | (simp; omega)) (fun q hq => (hown.lt q hq).1)
                  have HOW' := Lib.hid hown'
                  have hvl : vs.length = d := by have := hown.1; omega
                  have HBX2 : Hid (∀ (j : Nat) (u : Value) (x : List (Int × Int)), (vs ++ [Value.slice (some ⟨R, t * 2, none⟩) t (c2 - t)])[j]? = some u → (N.map fun r => r.drop t)[j]? = some x → Bx W4 u x) := Lib.hid (fun j u x hu hx => by
                    by_cases hj : j < d
                    · rw [List.getElem?_append_left (by omega)] at hu
                      exact HBX.out j u x hu hx
                    · have hju : j = d := by
                        have := (List.getElem?_eq_some_iff.1 hu).1
                        rw [List.length_append, hvl, List.length_singleton] at this
                        omega
                      subst hju
                      rw [List.getElem?_append_right (by omega), hvl, Nat.sub_self] at hu
                      rw [List.getElem?_map, HR.out] at hx
                      simp only [List.getElem?_cons_zero, Option.some.injEq, Option.map_some] at hu hx
                      rw [← hu, ← hx]
                      exact HBD.out)
                  clear hown' hgrow hown hvl fO
                  go_wp2_with (fail)
                  go_roundw
                  case rel => exact ⟨d + 1, _, g', cap', by go_num, by omega, rfl, HOW', HBX2, HNO2, hB9⟩
                  case measure => simp [intOf]; omega
            · obtain rfl : d = k := by omega
              have hs := HS.out
              have hno := HNO.out
              rw [List.take_of_length_le (by rw [HWD.out.1]; exact Nat.le_refl _)] at hno
              rw [if_pos hno] at hs
              have HN := Lib.hid hs
              clear hs hno
              go_wp2_with (fail)
              go_ret2
              refine ⟨fun N' h => ⟨_, rfl, ?_⟩, fun h => (by rw [← HN.out] at h; cases h), below_then hBw2 hB4⟩
              rw [← HN.out] at h
              rw [← Option.some.inj h]
              have hml : (N.map fun r => r.drop d).length = d := by rw [List.length_map, HWD.out.1]
              have := Lx.own (P := Bx) (B := W4.heap.size) (W := wr) (v := .slice (some ⟨g, 0, none⟩) d cap) (us := vs) (l := N.map fun r => r.drop d) (by rw [hml]; exact HOW.out) (by rw [hml]; unfold maxLen; omega) (fun j u x hu hx => (HBX.out j u x hu hx).grow hB4)
              exact this
end Go.Proofs.YtmcdkbnpcmiojaaGreat
