/-
  Slices of terms: seven cells a term.
-/
import Derived.Test.YthakeeinhgfbbaaGreatKit
import Derived.Test.YthakeeinhgfbbaaGreatReg
namespace Go.Proofs.YthakeeinhgfbbaaGreat
open Go.ChangeShapes Go.WideShapes Go.ChangeAt Go.RowKit
set_option linter.unusedVariables false
set_option linter.unusedSimpArgs false
set_option maxRecDepth 100000

/-- A term: its coefficient and its exponents. -/
abbrev Tm := Int × List Int
def encT (t : Tm) : List Value := .int .i64 t.1 :: t.2.map (.int .u8 ·)
def valE (e : List Int) : Value := .agg (e.map (.int .u8 ·)).toArray
def valT (t : Tm) : Value := .agg (encT t).toArray
/-- Six exponents, each a byte. -/
def EV (e : List Int) : Prop := e.length = 6 ∧ ∀ x ∈ e, 0 ≤ x ∧ x ≤ 255
def TV (t : Tm) : Prop := EV t.2 ∧ -9223372036854775808 ≤ t.1 ∧ t.1 ≤ 9223372036854775807
theorem six_of {e : List Int} (h : EV e) : ∃ a b c d f g, e = [a, b, c, d, f, g] := by
  match e, h.1 with
  | [a, b, c, d, f, g], _ => exact ⟨a, b, c, d, f, g, rfl⟩
/-- The slice v holds the terms l. -/
def Tx (w : World) (v : Value) (l : List Tm) : Prop := l.length ≤ maxLen ∧ ∃ p cap, v = .slice p l.length cap ∧
  ∀ i x, l[i]? = some x → ∃ b o, p = some ⟨b, o, none⟩ ∧ b < w.heap.size ∧ ∀ j u, (encT x)[j]? = some u → w.cell? ⟨b, o + i * 7 + j, none⟩ = some u
theorem Tx.grow {w w' : World} {v : Value} {l : List Tm} (h : Tx w v l) (hb : Below w.heap.size w w') : Tx w' v l := by
  obtain ⟨h1, p, c, rfl, h2⟩ := h
  refine ⟨h1, p, c, rfl, fun i x hx => ?_⟩
  obtain ⟨b, o, rfl, h3, h4⟩ := h2 i x hx
  exact ⟨b, o, rfl, Nat.lt_of_lt_of_le h3 hb.size, fun j u hu => (hb.cell (p := ⟨b, o + i * 7 + j, none⟩) h3).trans (h4 j u hu)⟩
theorem Tx.nil (w : World) (p : Option Addr) (c : Nat) : Tx w (.slice p 0 c) [] := ⟨Nat.zero_le _, p, c, rfl, fun i x h => by simp at h⟩
theorem Tx.cut {w : World} {v : Value} {l : List Tm} (h : Tx w v l) : ∃ p c, v = .slice p l.length c := by
  obtain ⟨_, p, c, e, _⟩ := h
  exact ⟨p, c, e⟩
theorem Tx.rd {w : World} {p : Option Addr} {n c i : Nat} {l : List Tm} {x : Tm} (h : Tx w (.slice p n c) l) (hx : l[i]? = some x) : ∃ b o, p = some ⟨b, o, none⟩ ∧ b < w.heap.size ∧ ∀ (g : Grown w) (j : Nat) (u : Value), (encT x)[j]? = some u → g.w.cell? ⟨b, o + i * 7 + j, none⟩ = some u := by
  obtain ⟨_, q, c', e, h⟩ := h
  obtain ⟨b, o, hq, h1, h2⟩ := h i x hx
  simp only [Value.slice.injEq] at e
  exact ⟨b, o, e.1.trans hq, h1, fun g j u hu => (g.cell h1).trans (h2 j u hu)⟩
/-- A term read: seven facts. -/
theorem Tx.rd7 {w : World} {p : Option Addr} {n c i : Nat} {l : List Tm} {k a0 a1 a2 a3 a4 a5 : Int} (h : Tx w (.slice p n c) l) (hx : l[i]? = some (k, [a0, a1, a2, a3, a4, a5])) : ∃ b o, p = some ⟨b, o, none⟩ ∧ b < w.heap.size ∧ ∀ g : Grown w, g.w.cell? ⟨b, o + i * 7, none⟩ = some (.int .i64 k) ∧ g.w.cell? ⟨b, o + i * 7 + 1, none⟩ = some (.int .u8 a0) ∧ g.w.cell? ⟨b, o + i * 7 + 2, none⟩ = some (.int .u8 a1) ∧ g.w.cell? ⟨b, o + i * 7 + 3, none⟩ = some (.int .u8 a2) ∧ g.w.cell? ⟨b, o + i * 7 + 4, none⟩ = some (.int .u8 a3) ∧ g.w.cell? ⟨b, o + i * 7 + 5, none⟩ = some (.int .u8 a4) ∧ g.w.cell? ⟨b, o + i * 7 + 6, none⟩ = some (.int .u8 a5) := by
  obtain ⟨b, o, rfl, h1, rd⟩ := h.rd hx
  exact ⟨b, o, rfl, h1, fun g => ⟨rd g 0 _ rfl, rd g 1 _ rfl, rd g 2 _ rfl, rd g 3 _ rfl, rd g 4 _ rfl, rd g 5 _ rfl, rd g 6 _ rfl⟩⟩
/-- The cells of a row of terms. -/
def ct (l : List Tm) : List Value := l.flatMap encT
theorem ct_snoc (l : List Tm) (t : Tm) : ct (l ++ [t]) = ct l ++ encT t := by simp [ct]
theorem ct_append (l m : List Tm) : ct (l ++ m) = ct l ++ ct m := by simp [ct]
theorem enc_len {t : Tm} (h : t.2.length = 6) : (encT t).length = 7 := by simp [encT, h]
theorem ct_len : ∀ {l : List Tm}, (∀ t ∈ l, t.2.length = 6) → (ct l).length = l.length * 7
  | [], _ => rfl
  | t :: l, h => by
    have e1 := enc_len (h t (by simp))
    have e2 := ct_len (l := l) fun x hx => h x (by simp [hx])
    show (encT t ++ ct l).length = _
    rw [List.length_append, e1, e2, List.length_cons]
    omega
theorem ct_get : ∀ {l : List Tm}, (∀ t ∈ l, t.2.length = 6) → ∀ (i : Nat) (x : Tm), l[i]? = some x → ∀ j u, (encT x)[j]? = some u → (ct l)[i * 7 + j]? = some u
  | [], _, i, x, h, _, _, _ => by simp at h
  | t :: l, hl, i, x, h, j, u, hu => by
    have e1 := enc_len (hl t (by simp))
    show (encT t ++ ct l)[i * 7 + j]? = some u
    match i with
    | 0 =>
      simp only [List.getElem?_cons_zero, Option.some.injEq] at h
      subst h
      rw [Nat.zero_mul, Nat.zero_add, List.getElem?_append_left (List.getElem?_eq_some_iff.1 hu).1]
      exact hu
    | i + 1 =>
      rw [List.getElem?_cons_succ] at h
      have e2 := ct_get (l := l) (fun x hx => hl x (by simp [hx])) i x h j u hu
      rw [List.getElem?_append_right (by omega), e1, show (i + 1) * 7 + j - 7 = i * 7 + j by omega]
      exact e2
theorem Tx.own {W : World} {B : Nat} {v : Value} {l : List Tm} {t : TypeId} (h : W.ownsRow B t 7 v l.length (ct l)) (hl : l.length ≤ maxLen) (h6 : ∀ t ∈ l, t.2.length = 6) : Tx W v l := by
  refine ⟨hl, ?_⟩
  rcases id h.2 with ⟨e, h0⟩ | ⟨g, cap, cur, e, _⟩
  · have : l = [] := List.length_eq_zero_iff.1 h0
    subst this
    exact ⟨none, 0, e, fun i x hx => by simp at hx⟩
  · refine ⟨some ⟨g, 0, none⟩, cap, e, fun i x hx => ⟨g, 0, rfl, (h.lt g (by rw [e]; rfl)).2, fun j u hu => ?_⟩⟩
    have hi := (List.getElem?_eq_some_iff.1 hx).1
    have hj : j < 7 := by
      have := (List.getElem?_eq_some_iff.1 hu).1
      rw [enc_len (h6 x (List.mem_of_getElem? hx))] at this
      exact this
    subst e
    have hc := h.cellAt (i * 7 + j) (by omega)
    rw [ct_get h6 i x hx j u hu] at hc
    rw [Nat.zero_add]
    exact hc
/-- Lexicographic order of exponents. -/
def cmpE : List Int → List Int → Int
  | [], [] => 0
  | [], _ :: _ => -1
  | _ :: _, [] => 1
  | a :: l, b :: m => if a < b then -1 else if b < a then 1 else cmpE l m
def degE (e : List Int) : Int := e.sum
def addE (d e : List Int) : List Int := (d.zip e).map fun z => (z.1 + z.2) % 256
def evenE (e : List Int) : Bool := e.all fun x => x % 2 == 0
end Go.Proofs.YthakeeinhgfbbaaGreat
