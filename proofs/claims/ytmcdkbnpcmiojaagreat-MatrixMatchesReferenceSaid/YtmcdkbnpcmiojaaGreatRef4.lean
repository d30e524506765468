/-
  The reference's small functions over number matrices: pointIn, Sample, Dot, Column, ContainsScaled, Valid.
-/
import Derived.Test.YtmcdkbnpcmiojaaGreatMatMath
import Derived.Test.YtmcdkbnpcmiojaaGreatSan4
import Derived.Test.YtmcdkbnpcmiojaaGreatInv
import Derived.Test.YtmcdkbnpcmiojaaGreatL4A
namespace Go.Proofs.YtmcdkbnpcmiojaaGreat
open Go.ChangeShapes Go.WideShapes Go.ChangeAt Go.RowKit
set_option linter.unusedVariables false
set_option linter.unusedSimpArgs false
set_option maxRecDepth 100000

attribute [local irreducible] Calls
/-- A matrix of numbers whose rows the call has made. -/
structure OwnN (B : Nat) (w : World) (v : Value) (us : List Value) (P : List (List Int)) : Prop where
  out : w.ownsRow B 26 1 v P.length us
  row : ∀ (i : Nat) (r : List Int), P[i]? = some r → ∃ R c, us[i]? = some (Value.slice (some ⟨R, 0, none⟩) r.length c) ∧ w.ownsRow B 2 1 (.slice (some ⟨R, 0, none⟩) r.length c) r.length (cy r)
theorem OwnN.kept {B : Nat} {w w' : World} {v : Value} {us : List Value} {P : List (List Int)} (h : OwnN B w v us P) (hb : Below w.heap.size w w') : OwnN B w' v us P :=
  ⟨h.out.kept (grown_below hb) (by rcases h.out.2 with ⟨e, _⟩ | ⟨O, c', cur, e, _⟩; exact .inl (by rw [e]; rfl); exact .inr (by rw [e]; simp [Value.ownBlock])),
   fun i r hr => by
    obtain ⟨R, c, h1, h2⟩ := h.row i r hr
    exact ⟨R, c, h1, h2.kept (grown_below hb) (.inr (by simp [Value.ownBlock]))⟩⟩
theorem OwnN.push {B : Nat} {w w' : World} {v v' : Value} {us : List Value} {P : List (List Int)} {r : List Int} {R c : Nat} (h : OwnN B w v us P) (hrow : w.ownsRow B 2 1 (.slice (some ⟨R, 0, none⟩) r.length c) r.length (cy r))
    (hown : w'.ownsRow B 26 1 v' (P.length + 1) (us ++ [.slice (some ⟨R, 0, none⟩) r.length c])) (hg : w.grownBy w' v.ownBlock) : OwnN B w' v' (us ++ [.slice (some ⟨R, 0, none⟩) r.length c]) (P ++ [r]) := by
  have hl : us.length = P.length := by have := h.out.1; omega
  have keep : ∀ (r' : List Int) (R' c' : Nat), w.ownsRow B 2 1 (.slice (some ⟨R', 0, none⟩) r'.length c') r'.length (cy r') → w'.ownsRow B 2 1 (.slice (some ⟨R', 0, none⟩) r'.length c') r'.length (cy r') := fun r' R' c' k => by
    refine k.kept hg (.inr ?_)
    rcases h.out.2 with ⟨e, _⟩ | ⟨O, c'', cur, e, _⟩
    · rw [e]
      exact nofun
    · have ho := h.out
      rw [e] at ho ⊢
      intro q
      simp only [Value.ownBlock, Option.some.injEq] at q
      subst q
      exact absurd (own_type ho k) (by decide)
  refine ⟨by rw [List.length_append, List.length_singleton]; exact hown, fun i s hs => ?_⟩
  by_cases hi : i < P.length
  · rw [List.getElem?_append_left hi] at hs
    obtain ⟨R', c', g1, g2⟩ := h.row i s hs
    exact ⟨R', c', by rw [List.getElem?_append_left (by omega)]; exact g1, keep s R' c' g2⟩
  · have hi2 : i = P.length := by
      have := (List.getElem?_eq_some_iff.1 hs).1
      rw [List.length_append, List.length_singleton] at this
      omega
    subst hi2
    rw [List.getElem?_append_right (Nat.le_refl _), Nat.sub_self] at hs
    simp only [List.getElem?_cons_zero, Option.some.injEq] at hs
    subst hs
    exact ⟨R, c, by rw [List.getElem?_append_right (by omega), show P.length - us.length = 0 by omega]; rfl, keep r R c hrow⟩
theorem pt_own {W : World} {B R c : Nat} {r : List Int} (h : W.ownsRow B 2 1 (.slice (some ⟨R, 0, none⟩) r.length c) r.length (cy r)) (hl : r.length ≤ maxLen) : Pt W (.slice (some ⟨R, 0, none⟩) r.length c) r := by
  refine ⟨hl, some ⟨R, 0, none⟩, c, rfl, fun k x hx => ⟨R, 0, rfl, (h.lt R rfl).2, ?_⟩⟩
  have hk := (List.getElem?_eq_some_iff.1 hx).1
  have := h.cellAt k (by omega)
  rw [Nat.zero_add, this]
  unfold cy
  rw [List.getElem?_map, hx]
  rfl
theorem OwnN.nx {B : Nat} {w : World} {v : Value} {us : List Value} {P : List (List Int)} (h : OwnN B w v us P) (hl : P.length ≤ maxLen) (hr : ∀ r ∈ P, r.length ≤ maxLen) : Nx w v P :=
  Lx.own h.out hl fun k u x hu hx => by
    obtain ⟨R, c, h1, h2⟩ := h.row k x hx
    rw [h1] at hu
    rw [← Option.some.inj hu]
    exact pt_own h2 (hr x (List.mem_of_getElem? hx))
def pinI (p : Int × Int) (t : Int) : Int := p.1 + (p.2 - p.1) * t / 65535
theorem pin_in {p : Int × Int} {t : Int} (h : Sm p) (h0 : 0 ≤ t) (h1 : t ≤ 65535) : p.1 ≤ pinI p t ∧ pinI p t ≤ p.2 := by
  have := point_in_bd p.1 p.2 t h.2.1 (by have := h.1; omega) (by have := h.2.2; omega) h0 h1
  unfold pinI
  omega
def prodL (a b : List Int) (k : Nat) : List Int := ((a.zip b).take k).map fun z => z.1 * z.2
def dotN (a b : List Int) : Int := ((a.zip b).map fun z => z.1 * z.2).sum
theorem sumN_bd {l : List Int} {B : Int} (h : ∀ x ∈ l, -B ≤ x ∧ x ≤ B) : -(B * l.length) ≤ l.sum ∧ l.sum ≤ B * l.length := by
  induction l with
  | nil => simp
  | cons x l ih =>
    have h1 := h x (by simp)
    have h2 := ih fun y hy => h y (by simp [hy])
    rw [List.sum_cons, List.length_cons]
    have : B * ((l.length + 1 : Nat) : Int) = B * l.length + B := by push_cast; rw [Int.mul_add, Int.mul_one]
    omega
theorem prod_next {a b : List Int} {k : Nat} {x y : Int} (hx : a[k]? = some x) (hy : b[k]? = some y) : prodL a b (k + 1) = prodL a b k ++ [x * y] := by
  unfold prodL
  rw [List.take_add_one, (List.getElem?_zip_eq_some (z := (x, y))).2 ⟨hx, hy⟩]
  simp
def colL (P : List (List Int)) (j : Nat) : List Int := P.map fun r => (r[j]?).getD 0
theorem col_next {P : List (List Int)} {j k : Nat} {r : List Int} {x : Int} (hr : P[k]? = some r) (hx : r[j]? = some x) : colL (P.take (k + 1)) j = colL (P.take k) j ++ [x] := by
  unfold colL
  rw [List.take_add_one, hr]
  simp [hx]
set_option maxHeartbeats 2000000 in
theorem r4column (v : Value) (P : List (List Int)) (j : Nat) (w : World) (hv : Nx w v P) (hl : P.length ≤ 100) (hr : ∀ r ∈ P, j < r.length) :
    Calls Tryz.prog 67 #[v, .int .i64 (j : Int)] w fun e w' => ∃ u, e = .returned u ∧ Pt w' u (colL P j) ∧ Below w.heap.size w w' := by
  obtain ⟨i0, hi, hz0, hz1, hz2⟩ := info_parts info_i64
  obtain ⟨p, c, rfl⟩ := hv.cut
  have HV := Lib.hid hv
  have HR := Lib.hid hr
  clear hv hr
  go_enter Tryz.func67, Tryz.ntmps67
  go_wp2_with (fail)
  go_loopw [5, 6] (fun u i wr => ∃ k : Nat, i = .int .i64 k ∧ k ≤ P.length ∧ OwnJ w.heap.size wr u (colL (P.take k) j) ∧ Below w.heap.size w wr) (fun _ i _ => P.length - (intOf i).toNat)
  case atStart => exact ⟨0, rfl, Nat.zero_le _, ⟨w.heap.size, 0, rfl, by simpa [cy, colL] using World.ownsRow_made (e := 2) (size := 1) w #[] 0 (Nat.le_refl _) (by decide) rfl⟩, (Below.refl _ _).alloc (Nat.le_refl _) _⟩
  case round =>
    obtain ⟨k, rfl, hk, ⟨g, cap, rfl, hown⟩, hB⟩ := hrel
    have hml : (colL (P.take k) j).length = k := by simp [colL]; omega
    by_cases hlt : k < P.length
    · have ik : (k : Int) < P.length := by omega
      obtain ⟨r, hrk⟩ : ∃ r, P[k]? = some r := ⟨_, List.getElem?_eq_getElem hlt⟩
      have hjr := HR.out r (List.mem_of_getElem? hrk)
      have ij : (j : Int) < r.length := by omega
      obtain ⟨x, hx⟩ : ∃ x, r[j]? = some x := ⟨_, List.getElem?_eq_getElem hjr⟩
      obtain ⟨b, o, b2, o2, c2, rfl, f1, f2⟩ := nx_open HV.out hrk (by omega)
      have h1 := f1 ⟨wr, hB⟩
      have h2 := f2 ⟨wr, hB⟩ j x hx
      dsimp only at h1 h2
      have HN := Lib.hid (col_next hrk hx)
      have hsz := hB.size
      have hgw := (hown.lt g rfl).2
      clear f1 f2 hrk hx
      rw [hml] at hown
      rw [hml]
      generalize colL (P.take k) j = L at *
      have HML := Lib.hid hml
      clear hml
      go_wp2_with (at_builtin; refine wpList_append_own _ rfl (.tmp 14) (.tmp 22) 26 rfl w.heap.size 2 i0 (.int .i64 0) 1 8 Tryz.underlying26 hi hz0 hz1 hz2 rfl (by decide) (.slice (some ⟨g, 0, none⟩) k cap) k _ rfl (hown.alloc _) ⟨wr.heap.size, 0, none⟩ 1 1 [.int .i64 x] rfl rfl (new_one _ _ _) (one_i64 x) (by unfold maxLen; omega) (by omega) (by first | omega | (simp; omega)) ?_)
      have hB8 := hB.alloc hsz (.cells #[.int .i64 x] 2)
      intro v' w6 hown' hgrow _
      obtain ⟨g', cap', rfl⟩ := ownsRow_succ hown'
      have hB9 : Below w.heap.size w w6 := Below.grown hB8 hgrow (by first | omega | (simp; omega)) (fun q hq => (hown.lt q hq).1)
      rw [← cy_snoc] at hown'
      have HO := Lib.hid hown'
      clear hown' hgrow hown
      go_wp2_with (fail)
      go_roundw
      case rel => exact ⟨k + 1, by go_num, by omega, ⟨g', cap', by rw [HN.out, List.length_append, HML.out]; rfl, by rw [HN.out, List.length_append, HML.out]; exact HO.out⟩, hB9⟩
      case measure => simp [intOf]; omega
    · obtain rfl : k = P.length := by omega
      rw [List.take_length] at hown hml ⊢
      have HO := Lib.hid hown
      have HML := Lib.hid hml
      clear hown hml
      go_wp2_with (fail)
      go_ret
      exact ⟨_, rfl, pt_own HO.out (by rw [HML.out]; unfold maxLen; omega), hB⟩
def contS (p : Int × Int) (s : Int) : Prop := Ent p.1 p.2 ∨ (p.1 * 65536 ≤ s ∧ s ≤ p.2 * 65536)
set_option maxHeartbeats 4000000 in
theorem r4valid (v : Value) (M : List (List (Int × Int))) (n : Nat) (w : World) (hv : Mx w v M) (hM : Sq n M) (h1 : 1 ≤ n) (h6 : n ≤ 6) :
    Calls Tryz.prog 6 #[v] w fun e w' => e = .returned (.bool true) ∧ Below w.heap.size w w' := by
  obtain ⟨p, c, rfl⟩ := hv.shape hM.1
  have HV := Lib.hid hv
  have HM := Lib.hid hM
  clear hv hM
  have d1 : decide ((n : Int) < 1) = false := decide_eq_false (by omega)
  have d2 : decide ((6 : Int) < n) = false := decide_eq_false (by omega)
  go_enter Tryz.func6, Tryz.ntmps6
  go_wp2_with (fail)
  go_loopw [3] (fun i wr => ∃ k : Nat, i = .int .i64 k ∧ k ≤ n ∧ Below w.heap.size w wr) (fun i _ => n - (intOf i).toNat)
  case atStart => exact ⟨0, rfl, Nat.zero_le _, Below.refl _ _⟩
  case round =>
    obtain ⟨k, rfl, hk, hB⟩ := hrel
    by_cases hlt : k < n
    · have ik : (k : Int) < n := by omega
      obtain ⟨r, hrk⟩ : ∃ r, M[k]? = some r := ⟨_, List.getElem?_eq_getElem (by rw [HM.out.1]; exact hlt)⟩
      obtain ⟨hrl, hrv⟩ := HM.out.2 r (List.mem_of_getElem? hrk)
      obtain ⟨b, o, u, hp, hb, rd⟩ := HV.out.rd grows_bx hrk
      subst hp
      have hbx := (rd ⟨w, Below.refl _ _⟩).2.2
      dsimp only at hbx
      obtain ⟨p2, c2, rfl⟩ := hbx.shape hrl
      have fO := (rd ⟨wr, hB⟩).2.1
      dsimp only at fO
      have HBX := Lib.hid hbx
      have HRD := Lib.hid rd
      have HRV := Lib.hid hrv
      have HRL := Lib.hid hrl
      clear rd hrk hbx hrv hrl
      go_wp2_with (fail)
      go_loopw [4] (fun i wr => ∃ j : Nat, i = .int .i64 j ∧ j ≤ n ∧ Below w.heap.size w wr) (fun i _ => n - (intOf i).toNat)
      case atStart => exact ⟨0, rfl, Nat.zero_le _, hB⟩
      case round =>
        clear fO hB
        obtain ⟨j, rfl, hj, hB⟩ := hrel
        by_cases hjn : j < n
        · have ij : (j : Int) < n := by omega
          obtain ⟨x, y, hx⟩ : ∃ x y, r[j]? = some (x, y) := ⟨(r[j]'(by rw [HRL.out]; exact hjn)).1, (r[j]'(by rw [HRL.out]; exact hjn)).2, List.getElem?_eq_getElem _⟩
          have hxv : VB (x, y) := HRV.out _ (List.mem_of_getElem? hx)
          have HX := Lib.hid (fun w => r2valid x y true w (decide_eq_true hxv))
          have fO := (HRD.out ⟨wr, hB⟩).2.1
          dsimp only at fO
          obtain ⟨b2, o2, rfl, hb2, rd2⟩ := HBX.out.rd2 hx
          have f1 := (rd2 ⟨wr, hB⟩).2.1
          have f2 := (rd2 ⟨wr, hB⟩).2.2
          dsimp only at f1 f2
          clear rd2 hx hxv
          go_wp2_with (fail)
          refine (HX.out _).mono ?_
          rintro e w5 ⟨rfl, hB5⟩
          have hB6 := below_then hB hB5
          go_wp2_with (fail)
          go_roundw
          case rel => exact ⟨j + 1, by go_num, by omega, hB6⟩
          case measure => simp [intOf]; omega
        · obtain rfl : j = n := by omega
          go_wp2_with (fail)
          go_roundw
          case rel => exact ⟨k + 1, by go_num, by omega, hB⟩
          case measure => simp [intOf]; omega
    · obtain rfl : k = n := by omega
      go_wp2_with (fail)
      go_ret
      exact ⟨rfl, hB⟩
def RowIn (r : List (Int × Int)) (m : List Int) : Prop := ∀ (t : Nat) (x : Int) (p : Int × Int), m[t]? = some x → r[t]? = some p → p.1 ≤ x ∧ x ≤ p.2
theorem row_snoc {r : List (Int × Int)} {m : List Int} {x : Int} {p : Int × Int} (h : RowIn r m) (hp : r[m.length]? = some p) (hx : p.1 ≤ x ∧ x ≤ p.2) : RowIn r (m ++ [x]) := by
  intro t y q hy hq
  by_cases ht : t < m.length
  · rw [List.getElem?_append_left ht] at hy
    exact h t y q hy hq
  · have e : t = m.length := by
      have := (List.getElem?_eq_some_iff.1 hy).1
      rw [List.length_append, List.length_singleton] at this
      omega
    subst e
    rw [List.getElem?_append_right (Nat.le_refl _), Nat.sub_self] at hy
    simp only [List.getElem?_cons_zero, Option.some.injEq] at hy
    rw [hp] at hq
    rw [← hy, ← Option.some.inj hq]
    exact hx
/-- The numbers P lie in the rows of M. -/
def SampM (n : Nat) (M : List (List (Int × Int))) (P : List (List Int)) : Prop := ∀ (i : Nat) (r : List (Int × Int)) (m : List Int), M[i]? = some r → P[i]? = some m → m.length = n ∧ RowIn r m
theorem samp_snoc {n : Nat} {M : List (List (Int × Int))} {P : List (List Int)} {r : List (Int × Int)} {m : List Int} (h : SampM n M P) (hr : M[P.length]? = some r) (hm : m.length = n) (hi : RowIn r m) : SampM n M (P ++ [m]) := by
  intro i s q hs hq
  by_cases ht : i < P.length
  · rw [List.getElem?_append_left ht] at hq
    exact h i s q hs hq
  · have e : i = P.length := by
      have := (List.getElem?_eq_some_iff.1 hq).1
      rw [List.length_append, List.length_singleton] at this
      omega
    subst e
    rw [List.getElem?_append_right (Nat.le_refl _), Nat.sub_self] at hq
    simp only [List.getElem?_cons_zero, Option.some.injEq] at hq
    rw [hr] at hs
    rw [← hq, ← Option.some.inj hs]
    exact ⟨hm, hi⟩
theorem samp_nx {n B : Nat} {w : World} {v : Value} {us : List Value} {M : List (List (Int × Int))} {P : List (List Int)} (hO : OwnN B w v us P) (hl : P.length = n) (hM : M.length = n) (hS : SampM n M P) (h6 : n ≤ 6) : Nx w v P :=
  hO.nx (by rw [hl]; unfold maxLen; omega) (fun r hr => by
    obtain ⟨i, hi'⟩ := List.getElem?_of_mem hr
    have hil : i < M.length := by have := (List.getElem?_eq_some_iff.1 hi').1; omega
    rw [(hS i _ r (List.getElem?_eq_getElem hil) hi').1]
    unfold maxLen; omega)
end Go.Proofs.YtmcdkbnpcmiojaaGreat
