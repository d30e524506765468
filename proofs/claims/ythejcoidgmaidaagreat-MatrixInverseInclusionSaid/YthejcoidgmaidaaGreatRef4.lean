/-
  The reference's small functions over number matrices: pointIn, Sample, Dot, Column, ContainsScaled, Valid.
-/
import Derived.Test.YthejcoidgmaidaaGreatMatMath
import Derived.Test.YthejcoidgmaidaaGreatSan4
import Derived.Test.YthejcoidgmaidaaGreatInv
import Derived.Test.YthejcoidgmaidaaGreatL4A
namespace Go.Proofs.YthejcoidgmaidaaGreat
open Go.ChangeShapes Go.WideShapes Go.ChangeAt Go.RowKit
set_option linter.unusedVariables false
set_option linter.unusedSimpArgs false
set_option maxRecDepth 100000

attribute [local irreducible] Calls
/-- A matrix of numbers whose rows the call has made. -/
structure OwnN (B : Nat) (w : World) (v : Value) (us : List Value) (P : List (List Int)) : Prop where
  out : w.ownsRow B 26 1 v P.length us
  row : ∀ (i : Nat) (r : List Int), P[i]? = some r → ∃ R c, us[i]? = some (Value.slice (some ⟨R, 0, none⟩) r.length c) ∧ w.ownsRow B 2 1 (.slice (some ⟨R, 0, none⟩) r.length c) r.length (cy r)
theorem OwnN.kept {B : Nat} {w w' : World} {v : Value} {us : List Value} {P : List (List Int)} (h : OwnN B w v us P) (hb : Below w.heap.size w w') : OwnN B w' v us P :=
  ⟨h.out.kept (grown_below hb) (by rcases h.out.2 with ⟨e, _⟩ | ⟨O, c', cur, e, _⟩; exact .inl (by rw [e]; rfl); exact .inr (by rw [e]; simp [Value.ownBlock])),
   fun i r hr => by
    obtain ⟨R, c, h1, h2⟩ := h.row i r hr
    exact ⟨R, c, h1, h2.kept (grown_below hb) (.inr (by simp [Value.ownBlock]))⟩⟩
theorem OwnN.push {B : Nat} {w w' : World} {v v' : Value} {us : List Value} {P : List (List Int)} {r : List Int} {R c : Nat} (h : OwnN B w v us P) (hrow : w.ownsRow B 2 1 (.slice (some ⟨R, 0, none⟩) r.length c) r.length (cy r))
    (hown : w'.ownsRow B 26 1 v' (P.length + 1) (us ++ [.slice (some ⟨R, 0, none⟩) r.length c])) (hg : w.grownBy w' v.ownBlock) : OwnN B w' v' (us ++ [.slice (some ⟨R, 0, none⟩) r.length c]) (P ++ [r]) := by
  have hl : us.length = P.length := by have := h.out.1; omega
  have keep : ∀ (r' : List Int) (R' c' : Nat), w.ownsRow B 2 1 (.slice (some ⟨R', 0, none⟩) r'.length c') r'.length (cy r') → w'.ownsRow B 2 1 (.slice (some ⟨R', 0, none⟩) r'.length c') r'.length (cy r') := fun r' R' c' k => by
    refine k.kept hg (.inr ?_)
    rcases h.out.2 with ⟨e, _⟩ | ⟨O, c'', cur, e, _⟩
    · rw [e]
      exact nofun
    · have ho := h.out
      rw [e] at ho ⊢
      intro q
      simp only [Value.ownBlock, Option.some.injEq] at q
      subst q
      exact absurd (own_type ho k) (by decide)
  refine ⟨by rw [List.length_append, List.length_singleton]; exact hown, fun i s hs => ?_⟩
  by_cases hi : i < P.length
  · rw [List.getElem?_append_left hi] at hs
    obtain ⟨R', c', g1, g2⟩ := h.row i s hs
    exact ⟨R', c', by rw [List.getElem?_append_left (by omega)]; exact g1, keep s R' c' g2⟩
  · have hi2 : i = P.length := by
      have := (List.getElem?_eq_some_iff.1 hs).1
      rw [List.length_append, List.length_singleton] at this
      omega
    subst hi2
    rw [List.getElem?_append_right (Nat.le_refl _), Nat.sub_self] at hs
    simp only [List.getElem?_cons_zero, Option.some.injEq] at hs
    subst hs
    exact ⟨R, c, by rw [List.getElem?_append_right (by omega), show P.length - us.length = 0 by omega]; rfl, keep r R c hrow⟩
theorem pt_own {W : World} {B R c : Nat} {r : List Int} (h : W.ownsRow B 2 1 (.slice (some ⟨R, 0, none⟩) r.length c) r.length (cy r)) (hl : r.length ≤ maxLen) : Pt W (.slice (some ⟨R, 0, none⟩) r.length c) r := by
  refine ⟨hl, some ⟨R, 0, none⟩, c, rfl, fun k x hx => ⟨R, 0, rfl, (h.lt R rfl).2, ?_⟩⟩
  have hk := (List.getElem?_eq_some_iff.1 hx).1
  have := h.cellAt k (by omega)
  rw [Nat.zero_add, this]
  unfold cy
  rw [List.getElem?_map, hx]
  rfl
theorem OwnN.nx {B : Nat} {w : World} {v : Value} {us : List Value} {P : List (List Int)} (h : OwnN B w v us P) (hl : P.length ≤ maxLen) (hr : ∀ r ∈ P, r.length ≤ maxLen) : Nx w v P :=
  Lx.own h.out hl fun k u x hu hx => by
    obtain ⟨R, c, h1, h2⟩ := h.row k x hx
    rw [h1] at hu
    rw [← Option.some.inj hu]
    exact pt_own h2 (hr x (List.mem_of_getElem? hx))
def pinI (p : Int × Int) (t : Int) : Int := p.1 + (p.2 - p.1) * t / 65535
theorem pin_in {p : Int × Int} {t : Int} (h : Sm p) (h0 : 0 ≤ t) (h1 : t ≤ 65535) : p.1 ≤ pinI p t ∧ pinI p t ≤ p.2 := by
  have := point_in_bd p.1 p.2 t h.2.1 (by have := h.1; omega) (by have := h.2.2; omega) h0 h1
  unfold pinI
  omega
set_option maxHeartbeats 1000000 in
theorem r4pin (x y t : Int) (w : World) (h : Sm (x, y)) (h0 : 0 ≤ t) (h1 : t ≤ 65535) :
    Calls Tryz.prog 78 #[.agg #[.int .i64 x, .int .i64 y], .int .u16 t] w fun e w' => e = .returned (.int .i64 (pinI (x, y) t)) ∧ Below w.heap.size w w' := by
  obtain ⟨g1, g2, g3⟩ := h
  dsimp only at g1 g2 g3
  have hpb := point_in_bd x y t g2 (by omega) (by omega) h0 h1
  have he : ¬ Ent x y := fun e => by have := e.1; omega
  have HE := Lib.hid he
  clear he
  have F1 : 0 ≤ y - x ∧ y - x ≤ 4294967296 := by omega
  have F2 : 0 ≤ (y - x) * t ∧ (y - x) * t ≤ 281474976710656 := ⟨hpb.1, hpb.2.1⟩
  have F3 : 0 ≤ (y - x) * t / 65535 ∧ (y - x) * t / 65535 ≤ 4294967296 := by omega
  have F4 : -2147483648 ≤ x + (y - x) * t / 65535 ∧ x + (y - x) * t / 65535 ≤ 2147483648 := by omega
  have W1 := wrap_ok (y - x) (by omega) (by omega)
  have W2 := wrap_ok ((y - x) * t) (by omega) (by omega)
  have W3 := wrap_ok ((y - x) * t / 65535) (by omega) (by omega)
  have W4 := wrap_ok (x + (y - x) * t / 65535) (by omega) (by omega)
  have W5 := Int.tdiv_eq_ediv_of_nonneg (b := 65535) F2.1
  clear hpb
  go_enter Tryz.func78, Tryz.ntmps78
  go_wp2_with (fail)
  refine (r2ent_no x y _ HE.out).mono ?_
  rintro e w1 ⟨rfl, hB1⟩
  have hI := iv_to (IvBox.new w x y) hB1
  have c0 := hI.cell0
  have c1 := hI.cell1
  dsimp only at c0 c1
  have hT : Below w.heap.size w w1 := ((Below.refl _ w).alloc (Nat.le_refl _) _).trans (hB1.mono (by simp))
  clear hI hB1
  go_wp2_with (fail)
  go_ret
  exact ⟨rfl, hT⟩
def prodL (a b : List Int) (k : Nat) : List Int := ((a.zip b).take k).map fun z => z.1 * z.2
def dotN (a b : List Int) : Int := ((a.zip b).map fun z => z.1 * z.2).sum
theorem sumN_bd {l : List Int} {B : Int} (h : ∀ x ∈ l, -B ≤ x ∧ x ≤ B) : -(B * l.length) ≤ l.sum ∧ l.sum ≤ B * l.length := by
  induction l with
  | nil => simp
  | cons x l ih =>
    have h1 := h x (by simp)
    have h2 := ih fun y hy => h y (by simp [hy])
    rw [List.sum_cons, List.length_cons]
    have : B * ((l.length + 1 : Nat) : Int) = B * l.length + B := by push_cast; rw [Int.mul_add, Int.mul_one]
    omega
theorem prod_next {a b : List Int} {k : Nat} {x y : Int} (hx : a[k]? = some x) (hy : b[k]? = some y) : prodL a b (k + 1) = prodL a b k ++ [x * y] := by
  unfold prodL
  rw [List.take_add_one, (List.getElem?_zip_eq_some (z := (x, y))).2 ⟨hx, hy⟩]
  simp
def colL (P : List (List Int)) (j : Nat) : List Int := P.map fun r => (r[j]?).getD 0
theorem col_next {P : List (List Int)} {j k : Nat} {r : List Int} {x : Int} (hr : P[k]? = some r) (hx : r[j]? = some x) : colL (P.take (k + 1)) j = colL (P.take k) j ++ [x] := by
  unfold colL
  rw [List.take_add_one, hr]
  simp [hx]
set_option maxHeartbeats 2000000 in
theorem r4column (v : Value) (P : List (List Int)) (j : Nat) (w : World) (hv : Nx w v P) (hl : P.length ≤ 100) (hr : ∀ r ∈ P, j < r.length) :
    Calls Tryz.prog 73 #[v, .int .i64 (j : Int)] w fun e w' => ∃ u, e = .returned u ∧ Pt w' u (colL P j) ∧ Below w.heap.size w w' := by
  obtain ⟨i0, hi, hz0, hz1, hz2⟩ := info_parts info_i64
  obtain ⟨p, c, rfl⟩ := hv.cut
  have HV := Lib.hid hv
  have HR := Lib.hid hr
  clear hv hr
  go_enter Tryz.func73, Tryz.ntmps73
  go_wp2_with (fail)
  go_loopw [5, 6] (fun u i wr => ∃ k : Nat, i = .int .i64 k ∧ k ≤ P.length ∧ OwnJ w.heap.size wr u (colL (P.take k) j) ∧ Below w.heap.size w wr) (fun _ i _ => P.length - (intOf i).toNat)
  case atStart => exact ⟨0, rfl, Nat.zero_le _, ⟨w.heap.size, 0, rfl, by simpa [cy, colL] using World.ownsRow_made (e := 2) (size := 1) w #[] 0 (Nat.le_refl _) (by decide) rfl⟩, (Below.refl _ _).alloc (Nat.le_refl _) _⟩
  case round =>
    obtain ⟨k, rfl, hk, ⟨g, cap, rfl, hown⟩, hB⟩ := hrel
    have hml : (colL (P.take k) j).length = k := by simp [colL]; omega
    by_cases hlt : k < P.length
    · have ik : (k : Int) < P.length := by omega
      obtain ⟨r, hrk⟩ : ∃ r, P[k]? = some r := ⟨_, List.getElem?_eq_getElem hlt⟩
      have hjr := HR.out r (List.mem_of_getElem? hrk)
      have ij : (j : Int) < r.length := by omega
      obtain ⟨x, hx⟩ : ∃ x, r[j]? = some x := ⟨_, List.getElem?_eq_getElem hjr⟩
      obtain ⟨b, o, b2, o2, c2, rfl, f1, f2⟩ := nx_open HV.out hrk (by omega)
      have h1 := f1 ⟨wr, hB⟩
      have h2 := f2 ⟨wr, hB⟩ j x hx
      dsimp only at h1 h2
      have HN := Lib.hid (col_next hrk hx)
      have hsz := hB.size
      have hgw := (hown.lt g rfl).2
      clear f1 f2 hrk hx
      rw [hml] at hown
      rw [hml]
      generalize colL (P.take k) j = L at *
      have HML := Lib.hid hml
      clear hml
      go_wp2_with (at_builtin; refine wpList_append_own _ rfl (.tmp 14) (.tmp 22) 26 rfl w.heap.size 2 i0 (.int .i64 0) 1 8 Tryz.underlying26 hi hz0 hz1 hz2 rfl (by decide) (.slice (some ⟨g, 0, none⟩) k cap) k _ rfl (hown.alloc _) ⟨wr.heap.size, 0, none⟩ 1 1 [.int .i64 x] rfl rfl (new_one _ _ _) (one_i64 x) (by unfold maxLen; omega) (by omega) (by first | omega | (simp; omega)) ?_)
      have hB8 := hB.alloc hsz (.cells #[.int .i64 x] 2)
      intro v' w6 hown' hgrow _
      obtain ⟨g', cap', rfl⟩ := ownsRow_succ hown'
      have hB9 : Below w.heap.size w w6 := Below.grown hB8 hgrow (by first | omega | (simp; omega)) (fun q hq => (hown.lt q hq).1)
      rw [← cy_snoc] at hown'
      have HO := Lib.hid hown'
      clear hown' hgrow hown
      go_wp2_with (fail)
      go_roundw
      case rel => exact ⟨k + 1, by go_num, by omega, ⟨g', cap', by rw [HN.out, List.length_append, HML.out]; rfl, by rw [HN.out, List.length_append, HML.out]; exact HO.out⟩, hB9⟩
      case measure => simp [intOf]; omega
    · obtain rfl : k = P.length := by omega
      rw [List.take_length] at hown hml ⊢
      have HO := Lib.hid hown
      have HML := Lib.hid hml
      clear hown hml
      go_wp2_with (fail)
      go_ret
      exact ⟨_, rfl, pt_own HO.out (by rw [HML.out]; unfold maxLen; omega), hB⟩
def contS (p : Int × Int) (s : Int) : Prop := Ent p.1 p.2 ∨ (p.1 * 65536 ≤ s ∧ s ≤ p.2 * 65536)
set_option maxHeartbeats 4000000 in
theorem r4valid (v : Value) (M : List (List (Int × Int))) (n : Nat) (w : World) (hv : Mx w v M) (hM : Sq n M) (h1 : 1 ≤ n) (h6 : n ≤ 6) :
    Calls Tryz.prog 7 #[v] w fun e w' => e = .returned (.bool true) ∧ Below w.heap.size w w' := by
  obtain ⟨p, c, rfl⟩ := hv.shape hM.1
  have HV := Lib.hid hv
  have HM := Lib.hid hM
  clear hv hM
  have d1 : decide ((n : Int) < 1) = false := decide_eq_false (by omega)
  have d2 : decide ((6 : Int) < n) = false := decide_eq_false (by omega)
  go_enter Tryz.func7, Tryz.ntmps7
  go_wp2_with (fail)
  go_loopw [3] (fun i wr => ∃ k : Nat, i = .int .i64 k ∧ k ≤ n ∧ Below w.heap.size w wr) (fun i _ => n - (intOf i).toNat)
  case atStart => exact ⟨0, rfl, Nat.zero_le _, Below.refl _ _⟩
  case round =>
    obtain ⟨k, rfl, hk, hB⟩ := hrel
    by_cases hlt : k < n
    · have ik : (k : Int) < n := by omega
      obtain ⟨r, hrk⟩ : ∃ r, M[k]? = some r := ⟨_, List.getElem?_eq_getElem (by rw [HM.out.1]; exact hlt)⟩
      obtain ⟨hrl, hrv⟩ := HM.out.2 r (List.mem_of_getElem? hrk)
      obtain ⟨b, o, u, hp, hb, rd⟩ := HV.out.rd grows_bx hrk
      subst hp
      have hbx := (rd ⟨w, Below.refl _ _⟩).2.2
      dsimp only at hbx
      obtain ⟨p2, c2, rfl⟩ := hbx.shape hrl
      have fO := (rd ⟨wr, hB⟩).2.1
      dsimp only at fO
      have HBX := Lib.hid hbx
      have HRD := Lib.hid rd
      have HRV := Lib.hid hrv
      have HRL := Lib.hid hrl
      clear rd hrk hbx hrv hrl
      go_wp2_with (fail)
      go_loopw [4] (fun i wr => ∃ j : Nat, i = .int .i64 j ∧ j ≤ n ∧ Below w.heap.size w wr) (fun i _ => n - (intOf i).toNat)
      case atStart => exact ⟨0, rfl, Nat.zero_le _, hB⟩
      case round =>
        clear fO hB
        obtain ⟨j, rfl, hj, hB⟩ := hrel
        by_cases hjn : j < n
        · have ij : (j : Int) < n := by omega
          obtain ⟨x, y, hx⟩ : ∃ x y, r[j]? = some (x, y) := ⟨(r[j]'(by rw [HRL.out]; exact hjn)).1, (r[j]'(by rw [HRL.out]; exact hjn)).2, List.getElem?_eq_getElem _⟩
          have hxv : VB (x, y) := HRV.out _ (List.mem_of_getElem? hx)
          have HX := Lib.hid (fun w => r2valid x y true w (decide_eq_true hxv))
          have fO := (HRD.out ⟨wr, hB⟩).2.1
          dsimp only at fO
          obtain ⟨b2, o2, rfl, hb2, rd2⟩ := HBX.out.rd2 hx
          have f1 := (rd2 ⟨wr, hB⟩).2.1
          have f2 := (rd2 ⟨wr, hB⟩).2.2
          dsimp only at f1 f2
          clear rd2 hx hxv
          go_wp2_with (fail)
          refine (HX.out _).mono ?_
          rintro e w5 ⟨rfl, hB5⟩
          have hB6 := below_then hB hB5
          go_wp2_with (fail)
          go_roundw
          case rel => exact ⟨j + 1, by go_num, by omega, hB6⟩
          case measure => simp [intOf]; omega
        · obtain rfl : j = n := by omega
          go_wp2_with (fail)
          go_roundw
          case rel => exact ⟨k + 1, by go_num, by omega, hB⟩
          case measure => simp [intOf]; omega
    · obtain rfl : k = n := by omega
      go_wp2_with (fail)
      go_ret
      exact ⟨rfl, hB⟩
def RowIn (r : List (Int × Int)) (m : List Int) : Prop := ∀ (t : Nat) (x : Int) (p : Int × Int), m[t]? = some x → r[t]? = some p → p.1 ≤ x ∧ x ≤ p.2
theorem row_snoc {r : List (Int × Int)} {m : List Int} {x : Int} {p : Int × Int} (h : RowIn r m) (hp : r[m.length]? = some p) (hx : p.1 ≤ x ∧ x ≤ p.2) : RowIn r (m ++ [x]) := by
  intro t y q hy hq
  by_cases ht : t < m.length
  · rw [List.getElem?_append_left ht] at hy
    exact h t y q hy hq
  · have e : t = m.length := by
      have := (List.getElem?_eq_some_iff.1 hy).1
      rw [List.length_append, List.length_singleton] at this
      omega
    subst e
    rw [List.getElem?_append_right (Nat.le_refl _), Nat.sub_self] at hy
    simp only [List.getElem?_cons_zero, Option.some.injEq] at hy
    rw [hp] at hq
    rw [← hy, ← Option.some.inj hq]
    exact hx
/-- The numbers P lie in the rows of M. -/
def SampM (n : Nat) (M : List (List (Int × Int))) (P : List (List Int)) : Prop := ∀ (i : Nat) (r : List (Int × Int)) (m : List Int), M[i]? = some r → P[i]? = some m → m.length = n ∧ RowIn r m
theorem samp_snoc {n : Nat} {M : List (List (Int × Int))} {P : List (List Int)} {r : List (Int × Int)} {m : List Int} (h : SampM n M P) (hr : M[P.length]? = some r) (hm : m.length = n) (hi : RowIn r m) : SampM n M (P ++ [m]) := by
  intro i s q hs hq
  by_cases ht : i < P.length
  · rw [List.getElem?_append_left ht] at hq
    exact h i s q hs hq
  · have e : i = P.length := by
      have := (List.getElem?_eq_some_iff.1 hq).1
      rw [List.length_append, List.length_singleton] at this
      omega
    subst e
    rw [List.getElem?_append_right (Nat.le_refl _), Nat.sub_self] at hq
    simp only [List.getElem?_cons_zero, Option.some.injEq] at hq
    rw [hr] at hs
    rw [← hq, ← Option.some.inj hs]
    exact ⟨hm, hi⟩
set_option maxHeartbeats 16000000 in
theorem r4sample_o (v vt : Value) (M : List (List (Int × Int))) (f : List Int) (n : Nat) (w : World) (hv : Mx w v M) (hM : QM Sm n M) (hf : Us w vt f) (bf : ∀ x ∈ f, 0 ≤ x ∧ x ≤ 65535) (h6 : n ≤ 6) :
    Calls Tryz.prog 30 #[v, vt] w fun e w' => ∃ u us P, e = .returned u ∧ P.length = n ∧ SampM n M P ∧ OwnN w.heap.size w' u us P ∧ Below w.heap.size w w' := by
  obtain ⟨i0, hi, hz0, hz1, hz2⟩ := info_parts info_i64
  obtain ⟨p0, pi, pz0, pz1, pz2⟩ := info_parts info_nrow
  obtain ⟨p, c, rfl⟩ := hv.shape hM.1
  obtain ⟨hlf, p', c', rfl, hp'⟩ := hf
  unfold maxLen at hlf
  have HV := Lib.hid hv
  have HM := Lib.hid hM
  have HP' := Lib.hid hp'
  have BF := Lib.hid bf
  clear hv hM hp' bf
  go_enter Tryz.func30, Tryz.ntmps30
  go_wp2_with (fail)
  go_loopw [5, 6] (fun u i wr => ∃ (P : List (List Int)) (us : List Value) (g cap : Nat), i = .int .i64 P.length ∧ P.length ≤ n ∧ u = .slice (some ⟨g, 0, none⟩) P.length cap ∧ Hid (SampM n M P) ∧ Hid (OwnN w.heap.size wr u us P) ∧ Below w.heap.size w wr) (fun _ i _ => n - (intOf i).toNat)
  case atStart =>
    exact ⟨[], [], w.heap.size, 0, rfl, Nat.zero_le _, rfl, Lib.hid (fun i r m _ h => by simp at h), Lib.hid ⟨by simpa using World.ownsRow_made (e := 26) (size := 1) w #[] 0 (Nat.le_refl _) (by decide) rfl, fun i r h => by simp at h⟩, (Below.refl _ _).alloc (Nat.le_refl _) _⟩
  case round =>
    obtain ⟨P, us, g, cap, rfl, hPn, rfl, HS, HO, hB⟩ := hrel
    by_cases hlt : P.length < n
    · have ik : (P.length : Int) < n := by omega
      obtain ⟨r, hrk⟩ : ∃ r, M[P.length]? = some r := ⟨_, List.getElem?_eq_getElem (by rw [HM.out.1]; exact hlt)⟩
      obtain ⟨hrl, hrv⟩ := HM.out.2 r (List.mem_of_getElem? hrk)
      obtain ⟨b, o, u, hp, hb, rd⟩ := HV.out.rd grows_bx hrk
      subst hp
      have hbx := (rd ⟨w, Below.refl _ _⟩).2.2
      dsimp only at hbx
      obtain ⟨p2, c2, rfl⟩ := hbx.shape hrl
      have HBX := Lib.hid hbx
      have HRD := Lib.hid rd
      have HRV := Lib.hid hrv
      have HRL := Lib.hid hrl
      have HRK := Lib.hid hrk
      obtain ⟨W0, rfl⟩ : ∃ W0, W0 = wr := ⟨_, rfl⟩
      have hsz0 := hB.size
      have hBa : Below W0.heap.size W0 (W0.alloc (.cells #[] 2)) := (Below.refl _ _).alloc (Nat.le_refl _) _
      have hJ0 : OwnJ W0.heap.size (W0.alloc (.cells #[] 2)) (.slice (some ⟨W0.heap.size, 0, none⟩) 0 0) [] := ⟨W0.heap.size, 0, rfl, by simpa [cy] using World.ownsRow_made (e := 2) (size := 1) W0 #[] 0 (Nat.le_refl _) (by decide) rfl⟩
      clear rd hrk hbx hrv hrl
      go_wp2_with (fail)
      go_loopw [7, 8] (fun u i wr => ∃ m : List Int, i = .int .i64 m.length ∧ m.length ≤ n ∧ Hid (RowIn r m) ∧ OwnJ W0.heap.size wr u m ∧ Below W0.heap.size W0 wr) (fun _ i _ => n - (intOf i).toNat)
      case atStart => exact ⟨[], rfl, Nat.zero_le _, Lib.hid (fun t x p h => by simp at h), hJ0, hBa⟩
      case round =>
        clear hJ0 hBa
        obtain ⟨m, rfl, hm, HRI, ⟨g1, cap1, rfl, hown⟩, hB1⟩ := hrel
        by_cases hmn : m.length < n
        · have im : (m.length : Int) < n := by omega
          obtain ⟨x, y, hx⟩ : ∃ x y, r[m.length]? = some (x, y) := ⟨(r[m.length]'(by rw [HRL.out]; exact hmn)).1, (r[m.length]'(by rw [HRL.out]; exact hmn)).2, List.getElem?_eq_getElem _⟩
          have hxs : Sm (x, y) := HRV.out _ (List.mem_of_getElem? hx)
          have hBw : Below w.heap.size w wr := below_then hB hB1
          have fO := (HRD.out ⟨wr, hBw⟩).2.1
          dsimp only at fO
          obtain ⟨b2, o2, rfl, hb2, rd2⟩ := HBX.out.rd2 hx
          have f1 := (rd2 ⟨wr, hBw⟩).2.1
          have f2 := (rd2 ⟨wr, hBw⟩).2.2
          dsimp only at f1 f2
          have hgw := (hown.lt g1 rfl).2
          have hsz1 := hB1.size
          have HX := Lib.hid hx
          have HXS := Lib.hid hxs
          clear rd2 hx hxs
          obtain ⟨q, hqn, hq36⟩ : ∃ q : Nat, P.length * n = q ∧ q ≤ 36 := ⟨P.length * n, rfl, Nat.le_trans (Nat.mul_le_mul (show P.length ≤ 6 by omega) h6) (by decide)⟩
          have hq : (P.length : Int) * (n : Int) = (q : Int) := by rw [← hqn]; push_cast; rfl
          clear hqn
          by_cases hf0 : 0 < f.length
          · have hfi : decide (0 < (f.length : Int)) = true := decide_eq_true (by omega)
            obtain ⟨z, hz, hzl⟩ : ∃ z : Nat, ((q : Int) + (m.length : Int)) % (f.length : Int) = (z : Int) ∧ z < f.length := ⟨(q + m.length) % f.length, by push_cast; rfl, Nat.mod_lt _ hf0⟩
            have hz2' : ((q : Int) + (m.length : Int)).tmod (f.length : Int) = (z : Int) := by rw [Int.tmod_eq_emod_of_nonneg (by omega), hz]
            have W1 := wrap_ok (q : Int) (by omega) (by omega)
            have W2 := wrap_ok ((q : Int) + (m.length : Int)) (by omega) (by omega)
            have izl : (z : Int) < f.length := by omega
            have hfz : ¬ ((f.length : Int) = 0) := by omega
            obtain ⟨t, ht⟩ : ∃ t, f[z]? = some t := ⟨_, List.getElem?_eq_getElem hzl⟩
            obtain ⟨b3, o3, e3, hb3, hc3⟩ := HP'.out z t ht
            subst e3
            have ft := (hBw.cell (p := ⟨b3, o3 + z, none⟩) hb3).trans hc3
            obtain ⟨t0, t1⟩ := BF.out t (List.mem_of_getElem? ht)
            have HC := Lib.hid (fun w => r4pin x y t w HXS.out t0 t1)
            have HIN := Lib.hid (pin_in HXS.out t0 t1)
            clear ht hc3
            generalize pinI (x, y) t = z1 at *
            go_wp2_with (fail)
            refine (HC.out _).mono ?_
            rintro e w5 ⟨rfl, hB5⟩
            have hrow5 := hown.kept (grown_below hB5) (.inr (by simp [Value.ownBlock]))
            have hB6 : Below W0.heap.size W0 w5 := below_then hB1 hB5
            have hsz6 := hB6.size
            clear hown
            go_wp2_with (at_builtin; refine wpList_append_own _ rfl (.tmp 39) (.tmp 49) 26 rfl W0.heap.size 2 i0 (.int .i64 0) 1 8 Tryz.underlying26 hi hz0 hz1 hz2 rfl (by decide) (.slice (some ⟨g1, 0, none⟩) m.length cap1) m.length _ rfl (hrow5.alloc _) ⟨w5.heap.size, 0, none⟩ 1 1 [.int .i64 z1] rfl rfl (new_one _ _ _) (one_i64 z1) (by unfold maxLen; omega) (by omega) (by first | omega | (simp; omega)) ?_)
            have hB8 := hB6.alloc hsz6 (.cells #[.int .i64 z1] 2)
            intro v' w6 hown' hgrow _
            obtain ⟨g', cap', rfl⟩ := ownsRow_succ hown'
            have hB9 : Below W0.heap.size W0 w6 := Below.grown hB8 hgrow (by first | omega | (simp; omega)) (fun q hq => (hrow5.lt q hq).1)
            rw [← cy_snoc] at hown'
            have HO6 := Lib.hid hown'
            clear hown' hgrow hrow5
            go_wp2_with (fail)
            go_roundw
            case rel => exact ⟨m ++ [z1], by simp, by simp; omega, Lib.hid (row_snoc HRI.out HX.out HIN.out), ⟨g', cap', by simp, by simpa using HO6.out⟩, hB9⟩
            case measure => simp [intOf]; omega
          · have hfi : decide (0 < (f.length : Int)) = false := decide_eq_false (by omega)
            have HC := Lib.hid (fun w => r4pin x y 0 w HXS.out (by decide) (by decide))
            have HIN := Lib.hid (pin_in (t := 0) HXS.out (by decide) (by decide))
            generalize pinI (x, y) 0 = z1 at *
            go_wp2_with (fail)
            refine (HC.out _).mono ?_
            rintro e w5 ⟨rfl, hB5⟩
            have hrow5 := hown.kept (grown_below hB5) (.inr (by simp [Value.ownBlock]))
            have hB6 : Below W0.heap.size W0 w5 := below_then hB1 hB5
            have hsz6 := hB6.size
            clear hown
            go_wp2_with (at_builtin; refine wpList_append_own _ rfl (.tmp 39) (.tmp 49) 26 rfl W0.heap.size 2 i0 (.int .i64 0) 1 8 Tryz.underlying26 hi hz0 hz1 hz2 rfl (by decide) (.slice (some ⟨g1, 0, none⟩) m.length cap1) m.length _ rfl (hrow5.alloc _) ⟨w5.heap.size, 0, none⟩ 1 1 [.int .i64 z1] rfl rfl (new_one _ _ _) (one_i64 z1) (by unfold maxLen; omega) (by omega) (by first | omega | (simp; omega)) ?_)
            have hB8 := hB6.alloc hsz6 (.cells #[.int .i64 z1] 2)
            intro v' w6 hown' hgrow _
            obtain ⟨g', cap', rfl⟩ := ownsRow_succ hown'
            have hB9 : Below W0.heap.size W0 w6 := Below.grown hB8 hgrow (by first | omega | (simp; omega)) (fun q hq => (hrow5.lt q hq).1)
            rw [← cy_snoc] at hown'
            have HO6 := Lib.hid hown'
            clear hown' hgrow hrow5
            go_wp2_with (fail)
            go_roundw
            case rel => exact ⟨m ++ [z1], by simp, by simp; omega, Lib.hid (row_snoc HRI.out HX.out HIN.out), ⟨g', cap', by simp, by simpa using HO6.out⟩, hB9⟩
            case measure => simp [intOf]; omega
        · have hmn' : m.length = n := by omega
          have HMN := Lib.hid hmn'
          have hO5 := HO.out.kept hB1
          have hout5 := hO5.out
          have hBw : Below w.heap.size w wr := below_then hB hB1
          have hszw := hBw.size
          have hrowB : wr.ownsRow w.heap.size 2 1 (.slice (some ⟨g1, 0, none⟩) m.length cap1) m.length (cy m) := by
            rcases hown.2 with ⟨e, e2⟩ | ⟨g, cap, cur, e, hg, r⟩
            · exact ⟨hown.1, .inl ⟨e, e2⟩⟩
            · exact ⟨hown.1, .inr ⟨g, cap, cur, e, Nat.le_trans hsz0 hg, r⟩⟩
          have HO5 := Lib.hid hO5
          have HRW := Lib.hid hrowB
          clear hO5 hrowB hmn' hown
          go_wp2_with (at_builtin; refine wpList_append_own _ rfl (.tmp 51) (.tmp 53) 31 rfl w.heap.size 26 p0 (.slice none 0 0) 1 24 Tryz.underlying31 pi pz0 pz1 pz2 rfl (by decide) (.slice (some ⟨g, 0, none⟩) P.length cap) P.length _ rfl (hout5.alloc _) ⟨wr.heap.size, 0, none⟩ 1 1 [.slice (some ⟨g1, 0, none⟩) m.length cap1] rfl rfl (new_one _ _ _) (one_sl _ _ _) (by unfold maxLen; omega) (by omega) (by first | omega | (simp; omega)) ?_)
          have hBa : Below wr.heap.size wr (wr.alloc (.cells #[Value.slice (some ⟨g1, 0, none⟩) m.length cap1] 26)) := (Below.refl _ _).alloc (Nat.le_refl _) _
          intro v' w6 hown' hgrow _
          obtain ⟨g', cap', rfl⟩ := ownsRow_succ hown'
          have hB9 : Below w.heap.size w w6 := Below.grown (hBw.trans (hBa.mono hszw)) hgrow (by first | omega | (simp; omega)) (fun q hq => (hout5.lt q hq).1)
          have hP : OwnN w.heap.size w6 (.slice (some ⟨g', 0, none⟩) (P.length + 1) cap') (us ++ [.slice (some ⟨g1, 0, none⟩) m.length cap1]) (P ++ [m]) :=
            OwnN.push (HO5.out.kept hBa) (HRW.out.kept (grown_below hBa) (.inr (by simp [Value.ownBlock]))) hown' hgrow
          have HP := Lib.hid hP
          clear hP hown' hgrow hout5
          go_wp2_with (fail)
          go_roundw
          case rel => exact ⟨P ++ [m], _, g', cap', by simp, by simp; omega, by simp, Lib.hid (samp_snoc HS.out HRK.out HMN.out HRI.out), HP, hB9⟩
          case measure => simp [intOf]; omega
    · have hPl : P.length = n := by omega
      have HPL := Lib.hid hPl
      clear hPl
      go_wp2_with (fail)
      go_ret
      exact ⟨_, us, P, rfl, HPL.out, HS.out, HO.out, hB⟩
theorem samp_nx {n B : Nat} {w : World} {v : Value} {us : List Value} {M : List (List (Int × Int))} {P : List (List Int)} (hO : OwnN B w v us P) (hl : P.length = n) (hM : M.length = n) (hS : SampM n M P) (h6 : n ≤ 6) : Nx w v P :=
  hO.nx (by rw [hl]; unfold maxLen; omega) (fun r hr => by
    obtain ⟨i, hi'⟩ := List.getElem?_of_mem hr
    have hil : i < M.length := by have := (List.getElem?_eq_some_iff.1 hi').1; omega
    rw [(hS i _ r (List.getElem?_eq_getElem hil) hi').1]
    unfold maxLen; omega)
theorem r4sample (v vt : Value) (M : List (List (Int × Int))) (f : List Int) (n : Nat) (w : World) (hv : Mx w v M) (hM : QM Sm n M) (hf : Us w vt f) (bf : ∀ x ∈ f, 0 ≤ x ∧ x ≤ 65535) (h6 : n ≤ 6) :
    Calls Tryz.prog 30 #[v, vt] w fun e w' => ∃ u P, e = .returned u ∧ P.length = n ∧ SampM n M P ∧ Nx w' u P ∧ Below w.heap.size w w' := by
  refine (r4sample_o v vt M f n w hv hM hf bf h6).mono ?_
  rintro e w' ⟨u, us, P, rfl, h1, h2, h3, hB⟩
  exact ⟨u, P, rfl, h1, h2, samp_nx h3 h1 hM.1 h2 h6, hB⟩
end Go.Proofs.YthejcoidgmaidaaGreat
