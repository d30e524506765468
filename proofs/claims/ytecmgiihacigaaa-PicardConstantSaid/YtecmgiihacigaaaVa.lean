/-
  Picard images of boxes, as lists of pairs; the search for a box that holds its image.
-/
import Derived.Test.YtecmgiihacigaaaOc
import Derived.Test.YtecmgiihacigaaaHull
import Derived.Test.YtecmgiihacigaaaLoop
namespace Go.Proofs.Ytecmgiihacigaaa
open Go.ChangeShapes Go.WideShapes Go.ChangeAt Go.RowKit
set_option linter.unusedVariables false
set_option linter.unusedSimpArgs false
set_option maxRecDepth 100000
theorem vx_bx {w : World} {v : Value} {l : List (Int × Int)} (h : Vx w v l) : Bx w v l := by
  obtain ⟨h1, p, c, rfl, h2⟩ := h
  refine ⟨h1, p, c, rfl, fun k x hx => ?_⟩
  obtain ⟨b, o, rfl, h3, h4⟩ := h2 k x hx
  exact ⟨b, o, rfl, h3, h4 0 _ rfl, h4 1 _ rfl⟩
theorem bx_vx {w : World} {v : Value} {l : List (Int × Int)} (h : Bx w v l) : Vx w v l := by
  obtain ⟨h1, p, c, rfl, h2⟩ := h
  refine ⟨h1, p, c, rfl, fun k x hx => ?_⟩
  obtain ⟨b, o, rfl, h3, h4, h5⟩ := h2 k x hx
  refine ⟨b, o, rfl, h3, fun j u hj => ?_⟩
  unfold encB at hj
  match j, hj with
  | 0, hj => cases hj; exact h4
  | 1, hj => cases hj; exact h5
  | j + 2, hj => cases hj
/-- The image of a coordinate. -/
def imgP (H : Int) (x f : Int × Int) : Int × Int := opI 7 x (opI 9 (0, H) f)
def imgL (H : Int) (X F : List (Int × Int)) : List (Int × Int) := List.zipWith (imgP H) X F
theorem imgP_eq (H : Int) (x f : Int × Int) : imgP H x f = (addLo x.1 x.2 (mulLo 0 H f.1 f.2) (mulHi 0 H f.1 f.2), addHi x.1 x.2 (mulLo 0 H f.1 f.2) (mulHi 0 H f.1 f.2)) := rfl
theorem imgL_snoc {H : Int} {X F : List (Int × Int)} {k : Nat} {x f : Int × Int} (hx : X[k]? = some x) (hf : F[k]? = some f) : (imgL H X F).take (k + 1) = (imgL H X F).take k ++ [imgP H x f] := by
  rw [List.take_add_one]
  unfold imgL
  rw [List.getElem?_zipWith, hx, hf]
  rfl
theorem imgL_len {H : Int} {X F : List (Int × Int)} (h : F.length = X.length) : (imgL H X F).length = X.length := by
  unfold imgL
  rw [List.length_zipWith, h, Nat.min_self]
theorem imgL_at {H : Int} {X F : List (Int × Int)} {k : Nat} {x f : Int × Int} (hx : X[k]? = some x) (hf : F[k]? = some f) : (imgL H X F)[k]? = some (imgP H x f) := by
  unfold imgL
  rw [List.getElem?_zipWith, hx, hf]
theorem num_vi {H : Int} (h0 : 0 ≤ H) (h1 : H ≤ 1000000) : VI (0, H).1 (0, H).2 := .inr ⟨by unfold Num; dsimp only; omega, by unfold Num; dsimp only; omega, h0⟩
theorem imgP_vi {H : Int} {x f : Int × Int} (hx : VI x.1 x.2) (hf : VI f.1 f.2) (h0 : 0 ≤ H) (h1 : H ≤ 1000000) : VI (imgP H x f).1 (imgP H x f).2 := opI_vi 7 hx (opI_vi 9 (num_vi h0 h1) hf)
theorem imgL_vi {H : Int} {X F : List (Int × Int)} (hX : ∀ p ∈ X, VI p.1 p.2) (hF : ∀ p ∈ F, VI p.1 p.2) (h0 : 0 ≤ H) (h1 : H ≤ 1000000) : ∀ p ∈ imgL H X F, VI p.1 p.2 := by
  intro p hp
  obtain ⟨k, hk⟩ := List.getElem?_of_mem hp
  unfold imgL at hk
  rw [List.getElem?_zipWith] at hk
  cases ex : X[k]? with
  | none => rw [ex] at hk; cases hk
  | some x =>
    cases ef : F[k]? with
    | none => rw [ex, ef] at hk; cases hk
    | some f =>
      rw [ex, ef] at hk
      obtain rfl := Option.some.inj hk
      exact imgP_vi (hX _ (List.mem_of_getElem? ex)) (hF _ (List.mem_of_getElem? ef)) h0 h1
/-- The image of a box B for starts in X, on a step. -/
def imgT (L : List Is) (O : List Int) (T H : Int) (X B : List (Int × Int)) : List (Int × Int) := imgL H X (outV (evL B (T, T + H) L) O)
/-- The inflated interval. -/
def infP (p : Int × Int) : Int × Int := (mkLo (p.1 - ((p.2 - p.1) / 16 + 1)) (p.2 + ((p.2 - p.1) / 16 + 1)), mkHi (p.1 - ((p.2 - p.1) / 16 + 1)) (p.2 + ((p.2 - p.1) / 16 + 1)))
theorem infP_vi {p : Int × Int} (h : VI p.1 p.2) : VI (infP p).1 (infP p).2 := by
  have := h.bd
  exact mk_vi (by omega)
def infL (l : List (Int × Int)) : List (Int × Int) := l.map infP
/-- The entire line. -/
def entB (p : Int × Int) : Bool := (p.1 == -2147483648) && (p.2 == 2147483648)
theorem entB_iff (p : Int × Int) : entB p = true ↔ Ent p.1 p.2 := by unfold entB Ent; simp
/-- No coordinate is the entire line. -/
def bndB (l : List (Int × Int)) : Bool := !l.any entB
def subB (l m : List (Int × Int)) : Bool := (l.zip m).all sub1
def hulL (l m : List (Int × Int)) : List (Int × Int) := (l.zip m).map hullI
/-- The search: n more candidates, the first one made of h. -/
def encG (img : List (Int × Int) → List (Int × Int)) : Nat → List (Int × Int) → Option (List (Int × Int))
  | 0, _ => none
  | n + 1, h => if (bndB (infL h) && bndB (img (infL h))) = false then none else if subB (img (infL h)) (infL h) = true then some (img (infL h)) else encG img n (hulL (infL h) (img (infL h)))
theorem hul_vi {l m : List (Int × Int)} (h1 : ∀ p ∈ l, VI p.1 p.2) (h2 : ∀ p ∈ m, VI p.1 p.2) : ∀ p ∈ hulL l m, VI p.1 p.2 := by
  intro p hp
  unfold hulL at hp
  rw [List.mem_map] at hp
  obtain ⟨z, hz, rfl⟩ := hp
  have ha := h1 _ (List.of_mem_zip hz).1
  have hb := h2 _ (List.of_mem_zip hz).2
  unfold hullI
  dsimp only
  unfold VI Ent Num at *
  omega
theorem hul_len {l m : List (Int × Int)} (h : m.length = l.length) : (hulL l m).length = l.length := by unfold hulL; rw [List.length_map, List.length_zip, h, Nat.min_self]
theorem inf_vi {l : List (Int × Int)} (h : ∀ p ∈ l, VI p.1 p.2) : ∀ p ∈ infL l, VI p.1 p.2 := by
  intro p hp
  unfold infL at hp
  rw [List.mem_map] at hp
  obtain ⟨q, hq, rfl⟩ := hp
  exact infP_vi (h q hq)
theorem inf_len (l : List (Int × Int)) : (infL l).length = l.length := by unfold infL; rw [List.length_map]
end Go.Proofs.Ytecmgiihacigaaa
