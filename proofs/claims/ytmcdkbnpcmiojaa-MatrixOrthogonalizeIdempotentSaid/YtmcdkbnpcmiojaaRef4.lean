/-
  The reference's small functions over number matrices: pointIn, Sample, Dot, Column, ContainsScaled, Valid.
-/
import Derived.Test.YtmcdkbnpcmiojaaMatMath
import Derived.Test.YtmcdkbnpcmiojaaSan4
import Derived.Test.YtmcdkbnpcmiojaaInv
import Derived.Test.YtmcdkbnpcmiojaaL4A
namespace Go.Proofs.Ytmcdkbnpcmiojaa
open Go.ChangeShapes Go.WideShapes Go.ChangeAt Go.RowKit
set_option linter.unusedVariables false
set_option linter.unusedSimpArgs false
set_option maxRecDepth 100000

attribute [local irreducible] Calls
/-- A matrix of numbers whose rows the call has made. -/
structure OwnN (B : Nat) (w : World) (v : Value) (us : List Value) (P : List (List Int)) : Prop where
  out : w.ownsRow B 22 1 v P.length us
  row : ∀ (i : Nat) (r : List Int), P[i]? = some r → ∃ R c, us[i]? = some (Value.slice (some ⟨R, 0, none⟩) r.length c) ∧ w.ownsRow B 2 1 (.slice (some ⟨R, 0, none⟩) r.length c) r.length (cy r)
theorem OwnN.kept {B : Nat} {w w' : World} {v : Value} {us : List Value} {P : List (List Int)} (h : OwnN B w v us P) (hb : Below w.heap.size w w') : OwnN B w' v us P :=
  ⟨h.out.kept (grown_below hb) (by rcases h.out.2 with ⟨e, _⟩ | ⟨O, c', cur, e, _⟩; exact .inl (by rw [e]; rfl); exact .inr (by rw [e]; simp [Value.ownBlock])),
   fun i r hr => by
    obtain ⟨R, c, h1, h2⟩ := h.row i r hr
    exact ⟨R, c, h1, h2.kept (grown_below hb) (.inr (by simp [Value.ownBlock]))⟩⟩
theorem OwnN.push {B : Nat} {w w' : World} {v v' : Value} {us : List Value} {P : List (List Int)} {r : List Int} {R c : Nat} (h : OwnN B w v us P) (hrow : w.ownsRow B 2 1 (.slice (some ⟨R, 0, none⟩) r.length c) r.length (cy r))
    (hown : w'.ownsRow B 22 1 v' (P.length + 1) (us ++ [.slice (some ⟨R, 0, none⟩) r.length c])) (hg : w.grownBy w' v.ownBlock) : OwnN B w' v' (us ++ [.slice (some ⟨R, 0, none⟩) r.length c]) (P ++ [r]) := by
  have hl : us.length = P.length := by have := h.out.1; omega
  have keep : ∀ (r' : List Int) (R' c' : Nat), w.ownsRow B 2 1 (.slice (some ⟨R', 0, none⟩) r'.length c') r'.length (cy r') → w'.ownsRow B 2 1 (.slice (some ⟨R', 0, none⟩) r'.length c') r'.length (cy r') := fun r' R' c' k => by
    refine k.kept hg (.inr ?_)
    rcases h.out.2 with ⟨e, _⟩ | ⟨O, c'', cur, e, _⟩
    · rw [e]
      exact nofun
    · have ho := h.out
      rw [e] at ho ⊢
      intro q
      simp only [Value.ownBlock, Option.some.injEq] at q
      subst q
      exact absurd (own_type ho k) (by decide)
  refine ⟨by rw [List.length_append, List.length_singleton]; exact hown, fun i s hs => ?_⟩
  by_cases hi : i < P.length
  · rw [List.getElem?_append_left hi] at hs
    obtain ⟨R', c', g1, g2⟩ := h.row i s hs
    exact ⟨R', c', by rw [List.getElem?_append_left (by omega)]; exact g1, keep s R' c' g2⟩
  · have hi2 : i = P.length := by
      have := (List.getElem?_eq_some_iff.1 hs).1
      rw [List.length_append, List.length_singleton] at this
      omega
    subst hi2
    rw [List.getElem?_append_right (Nat.le_refl _), Nat.sub_self] at hs
    simp only [List.getElem?_cons_zero, Option.some.injEq] at hs
    subst hs
    exact ⟨R, c, by rw [List.getElem?_append_right (by omega), show P.length - us.length = 0 by omega]; rfl, keep r R c hrow⟩
theorem pt_own {W : World} {B R c : Nat} {r : List Int} (h : W.ownsRow B 2 1 (.slice (some ⟨R, 0, none⟩) r.length c) r.length (cy r)) (hl : r.length ≤ maxLen) : Pt W (.slice (some ⟨R, 0, none⟩) r.length c) r := by
  refine ⟨hl, some ⟨R, 0, none⟩, c, rfl, fun k x hx => ⟨R, 0, rfl, (h.lt R rfl).2, ?_⟩⟩
  have hk := (List.getElem?_eq_some_iff.1 hx).1
  have := h.cellAt k (by omega)
  rw [Nat.zero_add, this]
  unfold cy
  rw [List.getElem?_map, hx]
  rfl
theorem OwnN.nx {B : Nat} {w : World} {v : Value} {us : List Value} {P : List (List Int)} (h : OwnN B w v us P) (hl : P.length ≤ maxLen) (hr : ∀ r ∈ P, r.length ≤ maxLen) : Nx w v P :=
  Lx.own h.out hl fun k u x hu hx => by
    obtain ⟨R, c, h1, h2⟩ := h.row k x hx
    rw [h1] at hu
    rw [← Option.some.inj hu]
    exact pt_own h2 (hr x (List.mem_of_getElem? hx))
def pinI (p : Int × Int) (t : Int) : Int := p.1 + (p.2 - p.1) * t / 65535
theorem pin_in {p : Int × Int} {t : Int} (h : Sm p) (h0 : 0 ≤ t) (h1 : t ≤ 65535) : p.1 ≤ pinI p t ∧ pinI p t ≤ p.2 := by
  have := point_in_bd p.1 p.2 t h.2.1 (by have := h.1; omega) (by have := h.2.2; omega) h0 h1
  unfold pinI
  omega
def prodL (a b : List Int) (k : Nat) : List Int := ((a.zip b).take k).map fun z => z.1 * z.2
def dotN (a b : List Int) : Int := ((a.zip b).map fun z => z.1 * z.2).sum
theorem sumN_bd {l : List Int} {B : Int} (h : ∀ x ∈ l, -B ≤ x ∧ x ≤ B) : -(B * l.length) ≤ l.sum ∧ l.sum ≤ B * l.length := by
  induction l with
  | nil => simp
  | cons x l ih =>
    have h1 := h x (by simp)
    have h2 := ih fun y hy => h y (by simp [hy])
    rw [List.sum_cons, List.length_cons]
    have : B * ((l.length + 1 : Nat) : Int) = B * l.length + B := by push_cast; rw [Int.mul_add, Int.mul_one]
    omega
theorem prod_next {a b : List Int} {k : Nat} {x y : Int} (hx : a[k]? = some x) (hy : b[k]? = some y) : prodL a b (k + 1) = prodL a b k ++ [x * y] := by
  unfold prodL
  rw [List.take_add_one, (List.getElem?_zip_eq_some (z := (x, y))).2 ⟨hx, hy⟩]
  simp
set_option maxHeartbeats 2000000 in
theorem r4dot (va vb : Value) (a b : List Int) (w : World) (ha : Pt w va a) (hb : Pt w vb b) (hl : a.length ≤ 100) (hl2 : b.length = a.length) (hbd : ∀ z ∈ a.zip b, -4503599627370496 ≤ z.1 * z.2 ∧ z.1 * z.2 ≤ 4503599627370496) :
    Calls Try.prog 11 #[va, vb] w fun e w' => e = .returned (.int .i64 (dotN a b)) ∧ Below w.heap.size w w' := by
  obtain ⟨l1, p, c, rfl, hp⟩ := ha
  obtain ⟨l2, q, d, rfl, hq⟩ := hb
  rw [hl2] at l2 ⊢
  have pbd : ∀ k, -4503599627370496 * 100 ≤ (prodL a b k).sum ∧ (prodL a b k).sum ≤ 4503599627370496 * 100 := fun k => by
    have h1 := sumN_bd (l := prodL a b k) (B := 4503599627370496) fun x hx => by
      unfold prodL at hx
      rw [List.mem_map] at hx
      obtain ⟨z, hz, rfl⟩ := hx
      exact hbd z (List.mem_of_mem_take hz)
    have h2 : (prodL a b k).length ≤ 100 := by
      unfold prodL
      rw [List.length_map, List.length_take, List.length_zip]
      omega
    omega
  have PB := Lib.hid pbd
  have BD := Lib.hid hbd
  have HL2 := Lib.hid hl2
  clear pbd hbd hl2
  go_enter Try.func11, Try.ntmps11
  go_wp2_with (fail)
  go_loopw [5, 6] (fun s i wr => ∃ k : Nat, i = .int .i64 k ∧ k ≤ a.length ∧ s = .int .i64 (prodL a b k).sum ∧ Below w.heap.size w wr) (fun _ i _ => a.length - (intOf i).toNat)
  case atStart => exact ⟨0, rfl, Nat.zero_le _, by simp [prodL], Below.refl _ _⟩
  case round =>
    obtain ⟨k, rfl, hk, rfl, hB⟩ := hrel
    by_cases hlt : k < a.length
    · have ik : (k : Int) < a.length := by omega
      obtain ⟨ba, oa, x, rfl, hx, hba, cx⟩ := Pt.at (c := 0) (n := 0) hp hlt hB
      obtain ⟨bb, ob, y, rfl, hy, hbb, cy'⟩ := Pt.at (c := 0) (n := 0) hq (by rw [HL2.out]; exact hlt) hB
      have hz := BD.out (x, y) (List.mem_of_getElem? ((List.getElem?_zip_eq_some (z := (x, y))).2 ⟨hx, hy⟩))
      dsimp only at hz
      have hs := PB.out k
      have hn : (prodL a b (k + 1)).sum = (prodL a b k).sum + x * y := by rw [prod_next hx hy, List.sum_append]; simp
      have HN := Lib.hid hn
      clear hn hx hy hp hq
      generalize (prodL a b k).sum = S at *
      obtain ⟨P, hP⟩ : ∃ P, x * y = P := ⟨_, rfl⟩
      rw [hP] at hz HN
      have W1 := wrap_ok (x * y) (by omega) (by omega)
      have W2 := wrap_ok (S + x * y) (by omega) (by omega)
      go_wp2_with (fail)
      go_quiet (fail)
      go_wp2_with (fail)
      go_roundw
      case rel => exact ⟨k + 1, by go_num, by omega, by rw [HN.out], below_drewN hB _⟩
      case measure => simp [intOf]; omega
    · obtain rfl : k = a.length := by omega
      have he : (prodL a b a.length).sum = dotN a b := by
        unfold prodL dotN
        rw [List.take_of_length_le (by rw [List.length_zip]; omega)]
      rw [he]
      clear he
      go_wp2_with (fail)
      go_ret
      exact ⟨rfl, hB⟩
def colL (P : List (List Int)) (j : Nat) : List Int := P.map fun r => (r[j]?).getD 0
theorem col_next {P : List (List Int)} {j k : Nat} {r : List Int} {x : Int} (hr : P[k]? = some r) (hx : r[j]? = some x) : colL (P.take (k + 1)) j = colL (P.take k) j ++ [x] := by
  unfold colL
  rw [List.take_add_one, hr]
  simp [hx]
set_option maxHeartbeats 2000000 in
theorem r4column (v : Value) (P : List (List Int)) (j : Nat) (w : World) (hv : Nx w v P) (hl : P.length ≤ 100) (hr : ∀ r ∈ P, j < r.length) :
    Calls Try.prog 10 #[v, .int .i64 (j : Int)] w fun e w' => ∃ u, e = .returned u ∧ Pt w' u (colL P j) ∧ Below w.heap.size w w' := by
  obtain ⟨i0, hi, hz0, hz1, hz2⟩ := info_parts info_i64
  obtain ⟨p, c, rfl⟩ := hv.cut
  have HV := Lib.hid hv
  have HR := Lib.hid hr
  clear hv hr
  go_enter Try.func10, Try.ntmps10
  go_wp2_with (fail)
  go_loopw [5, 6] (fun u i wr => ∃ k : Nat, i = .int .i64 k ∧ k ≤ P.length ∧ OwnJ w.heap.size wr u (colL (P.take k) j) ∧ Below w.heap.size w wr) (fun _ i _ => P.length - (intOf i).toNat)
  case atStart => exact ⟨0, rfl, Nat.zero_le _, ⟨w.heap.size, 0, rfl, by simpa [cy, colL] using World.ownsRow_made (e := 2) (size := 1) w #[] 0 (Nat.le_refl _) (by decide) rfl⟩, (Below.refl _ _).alloc (Nat.le_refl _) _⟩
  case round =>
    obtain ⟨k, rfl, hk, ⟨g, cap, rfl, hown⟩, hB⟩ := hrel
    have hml : (colL (P.take k) j).length = k := by simp [colL]; omega
    by_cases hlt : k < P.length
    · have ik : (k : Int) < P.length := by omega
      obtain ⟨r, hrk⟩ : ∃ r, P[k]? = some r := ⟨_, List.getElem?_eq_getElem hlt⟩
      have hjr := HR.out r (List.mem_of_getElem? hrk)
      have ij : (j : Int) < r.length := by omega
      obtain ⟨x, hx⟩ : ∃ x, r[j]? = some x := ⟨_, List.getElem?_eq_getElem hjr⟩
      obtain ⟨b, o, b2, o2, c2, rfl, f1, f2⟩ := nx_open HV.out hrk (by omega)
      have h1 := f1 ⟨wr, hB⟩
      have h2 := f2 ⟨wr, hB⟩ j x hx
      dsimp only at h1 h2
      have HN := Lib.hid (col_next hrk hx)
      have hsz := hB.size
      have hgw := (hown.lt g rfl).2
      clear f1 f2 hrk hx
      rw [hml] at hown
      rw [hml]
      generalize colL (P.take k) j = L at *
      have HML := Lib.hid hml
      clear hml
      go_wp2_with (at_builtin; refine wpList_append_own _ rfl (.tmp 14) (.tmp 22) 22 rfl w.heap.size 2 i0 (.int .i64 0) 1 8 Try.underlying22 hi hz0 hz1 hz2 rfl (by decide) (.slice (some ⟨g, 0, none⟩) k cap) k _ rfl (hown.alloc _) ⟨wr.heap.size, 0, none⟩ 1 1 [.int .i64 x] rfl rfl (new_one _ _ _) (one_i64 x) (by unfold maxLen; omega) (by omega) (by first | omega | (simp; omega)) ?_)
      have hB8 := hB.alloc hsz (.cells #[.int .i64 x] 2)
      intro v' w6 hown' hgrow _
      obtain ⟨g', cap', rfl⟩ := ownsRow_succ hown'
      have hB9 : Below w.heap.size w w6 := Below.grown hB8 hgrow (by first | omega | (simp; omega)) (fun q hq => (hown.lt q hq).1)
      rw [← cy_snoc] at hown'
      have HO := Lib.hid hown'
      clear hown' hgrow hown
      go_wp2_with (fail)
      go_roundw
      case rel => exact ⟨k + 1, by go_num, by omega, ⟨g', cap', by rw [HN.out, List.length_append, HML.out]; rfl, by rw [HN.out, List.length_append, HML.out]; exact HO.out⟩, hB9⟩
      case measure => simp [intOf]; omega
    · obtain rfl : k = P.length := by omega
      rw [List.take_length] at hown hml ⊢
      have HO := Lib.hid hown
      have HML := Lib.hid hml
      clear hown hml
      go_wp2_with (fail)
      go_ret
      exact ⟨_, rfl, pt_own HO.out (by rw [HML.out]; unfold maxLen; omega), hB⟩
def contS (p : Int × Int) (s : Int) : Prop := Ent p.1 p.2 ∨ (p.1 * 65536 ≤ s ∧ s ≤ p.2 * 65536)
def RowIn (r : List (Int × Int)) (m : List Int) : Prop := ∀ (t : Nat) (x : Int) (p : Int × Int), m[t]? = some x → r[t]? = some p → p.1 ≤ x ∧ x ≤ p.2
theorem row_snoc {r : List (Int × Int)} {m : List Int} {x : Int} {p : Int × Int} (h : RowIn r m) (hp : r[m.length]? = some p) (hx : p.1 ≤ x ∧ x ≤ p.2) : RowIn r (m ++ [x]) := by
  intro t y q hy hq
  by_cases ht : t < m.length
  · rw [List.getElem?_append_left ht] at hy
    exact h t y q hy hq
  · have e : t = m.length := by
      have := (List.getElem?_eq_some_iff.1 hy).1
      rw [List.length_append, List.length_singleton] at this
      omega
    subst e
    rw [List.getElem?_append_right (Nat.le_refl _), Nat.sub_self] at hy
    simp only [List.getElem?_cons_zero, Option.some.injEq] at hy
    rw [hp] at hq
    rw [← hy, ← Option.some.inj hq]
    exact hx
/-- The numbers P lie in the rows of M. -/
def SampM (n : Nat) (M : List (List (Int × Int))) (P : List (List Int)) : Prop := ∀ (i : Nat) (r : List (Int × Int)) (m : List Int), M[i]? = some r → P[i]? = some m → m.length = n ∧ RowIn r m
theorem samp_snoc {n : Nat} {M : List (List (Int × Int))} {P : List (List Int)} {r : List (Int × Int)} {m : List Int} (h : SampM n M P) (hr : M[P.length]? = some r) (hm : m.length = n) (hi : RowIn r m) : SampM n M (P ++ [m]) := by
  intro i s q hs hq
  by_cases ht : i < P.length
  · rw [List.getElem?_append_left ht] at hq
    exact h i s q hs hq
  · have e : i = P.length := by
      have := (List.getElem?_eq_some_iff.1 hq).1
      rw [List.length_append, List.length_singleton] at this
      omega
    subst e
    rw [List.getElem?_append_right (Nat.le_refl _), Nat.sub_self] at hq
    simp only [List.getElem?_cons_zero, Option.some.injEq] at hq
    rw [hr] at hs
    rw [← hq, ← Option.some.inj hs]
    exact ⟨hm, hi⟩
theorem samp_nx {n B : Nat} {w : World} {v : Value} {us : List Value} {M : List (List (Int × Int))} {P : List (List Int)} (hO : OwnN B w v us P) (hl : P.length = n) (hM : M.length = n) (hS : SampM n M P) (h6 : n ≤ 6) : Nx w v P :=
  hO.nx (by rw [hl]; unfold maxLen; omega) (fun r hr => by
    obtain ⟨i, hi'⟩ := List.getElem?_of_mem hr
    have hil : i < M.length := by have := (List.getElem?_eq_some_iff.1 hi').1; omega
    rw [(hS i _ r (List.getElem?_eq_getElem hil) hi').1]
    unfold maxLen; omega)
end Go.Proofs.Ytmcdkbnpcmiojaa
