/-
  Maps keyed by six bytes, their elements int64: what they hold, as a list of pairs that were added up.
-/
import Derived.Test.YtcamjoddaeefdaaTm
import Derived.WideKeyPair
import Derived.Maps.OwnOps
import Derived.Maps.RangeWalk
namespace Go.Proofs.Ytcamjoddaeefdaa
open Go.ChangeShapes Go.WideShapes Go.ChangeAt Go.RowKit Go.Maps
open Go.WideMaps (ArrKey)
set_option linter.unusedVariables false
set_option linter.unusedSimpArgs false
set_option maxRecDepth 100000

/-- What six bytes read as, as a key. -/
def kl6 (e : List Int) : Lit := .string (keyBytes (e.map (Lit.int .u8 ·)))
theorem wf_u8 {x : Int} (h : 0 ≤ x ∧ x ≤ 255) : (Lit.int .u8 x).wf = true := by
  have e1 : IntKind.u8.min = 0 := rfl
  have e2 : IntKind.u8.max = 255 := rfl
  simp [Lit.wf, e1, e2]
  omega
theorem wf_u8_inv {x : Int} (h : (Lit.int .u8 x).wf = true) : 0 ≤ x ∧ x ≤ 255 := by
  have e1 : IntKind.u8.min = 0 := rfl
  have e2 : IntKind.u8.max = 255 := rfl
  simp [Lit.wf, e1, e2] at h
  omega
theorem valE_inj {d e : List Int} (h : valE d = valE e) : d = e := by
  simp only [valE, Value.agg.injEq] at h
  have h2 := congrArg Array.toList h
  simp only [List.toList_toArray] at h2
  refine List.map_inj_right (fun a b hab => ?_) |>.1 h2
  simpa using hab
section
variable {P : Program} {k e : TypeId} (A : ArrKey P k e 6) (he : P.underlying e = some (.int .u8)) (hsz : ∃ m, P.types.size = m + 1)
include A he hsz
theorem keyOf_six {l : List Int} (h : EV l) : keyOf P k (valE l) = some (kl6 l) := by
  obtain ⟨a, b, c, d, f, g, rfl⟩ := six_of h
  have w0 := wf_u8 (h.2 a (by simp))
  have w1 := wf_u8 (h.2 b (by simp))
  have w2 := wf_u8 (h.2 c (by simp))
  have w3 := wf_u8 (h.2 d (by simp))
  have w4 := wf_u8 (h.2 f (by simp))
  have w5 := wf_u8 (h.2 g (by simp))
  have hkt := A.keyType hsz
  obtain ⟨m, hm⟩ := hsz
  unfold keyOf valE
  simp only [A.hu]
  rw [if_pos (by simp [hkt, Value.formed, A.hu, A.size]), hm]
  unfold Program.keyLits
  simp only [A.hu, Value.cells]
  rw [if_pos (by rw [A.size]; rfl), show List.range 6 = [0, 1, 2, 3, 4, 5] from rfl]
  simp only [List.mapM_cons, List.mapM_nil]
  simp [A.one, Program.keyLits, he, w0, w1, w2, w3, w4, w5, kl6]
omit A hsz in
theorem keyLits_one {m : Nat} {c : Value} {ls : List Lit} (h : P.keyLits (m + 1) e [c] = some ls) : ∃ n, c = .int .u8 n ∧ (0 ≤ n ∧ n ≤ 255) ∧ ls = [.int .u8 n] := by
  cases c <;> simp [Program.keyLits, he] at h
  obtain ⟨⟨rfl, hw⟩, rfl⟩ := h
  exact ⟨_, rfl, wf_u8_inv hw, rfl⟩
theorem keyOf_six_inv {v : Value} {kl : Lit} (h : keyOf P k v = some kl) : ∃ l, EV l ∧ v = valE l ∧ kl = kl6 l := by
  obtain ⟨m, hm⟩ := hsz
  unfold keyOf at h
  simp only [A.hu] at h
  split at h
  · rename_i hc
    simp only [Bool.and_eq_true] at hc
    have hf := hc.2
    cases v with
    | agg cs =>
      simp [Value.formed, A.hu, A.size] at hf
      obtain ⟨l⟩ := cs
      match l, hf with
      | [c0, c1, c2, c3, c4, c5], _ =>
        rw [hm] at h
        unfold Program.keyLits at h
        simp only [A.hu, Value.cells] at h
        rw [if_pos (by rw [A.size]; rfl), show List.range 6 = [0, 1, 2, 3, 4, 5] from rfl] at h
        simp only [List.mapM_cons, List.mapM_nil, A.one, bind, pure, Option.map_eq_some_iff, Option.bind_eq_some_iff, Option.some.injEq] at h
        obtain ⟨_, ⟨ls, ⟨x0, h0, _, ⟨x1, h1, _, ⟨x2, h2, _, ⟨x3, h3, _, ⟨x4, h4, _, ⟨x5, h5, _, rfl, rfl⟩, rfl⟩, rfl⟩, rfl⟩, rfl⟩, rfl⟩, rfl⟩, rfl⟩ := h
        simp at h0 h1 h2 h3 h4 h5
        obtain ⟨n0, rfl, b0, rfl⟩ := keyLits_one he h0
        obtain ⟨n1, rfl, b1, rfl⟩ := keyLits_one he h1
        obtain ⟨n2, rfl, b2, rfl⟩ := keyLits_one he h2
        obtain ⟨n3, rfl, b3, rfl⟩ := keyLits_one he h3
        obtain ⟨n4, rfl, b4, rfl⟩ := keyLits_one he h4
        obtain ⟨n5, rfl, b5, rfl⟩ := keyLits_one he h5
        refine ⟨[n0, n1, n2, n3, n4, n5], ⟨rfl, fun x hx => ?_⟩, rfl, rfl⟩
        simp at hx
        rcases hx with rfl | rfl | rfl | rfl | rfl | rfl <;> assumption
    | _ => simp [Value.formed, A.hu] at hf
  · simp at h
end
theorem arr6 : ArrKey Try.prog 37 5 6 := ⟨Try.underlying37, by kernel_rfl, by kernel_rfl, by kernel_rfl⟩
theorem types_pos : ∃ m, Try.prog.types.size = m + 1 := ⟨Try.prog.types.size - 1, by have : 0 < Try.prog.types.size := of_decide_eq_true (by kernel_rfl); omega⟩
theorem law6 : Keyed Try.prog 37 := Keyed.of_law arr6.law
theorem key6 {l : List Int} (h : EV l) : keyOf Try.prog 37 (valE l) = some (kl6 l) := keyOf_six arr6 Try.underlying5 types_pos h
theorem key6_inv {v : Value} {kl : Lit} (h : keyOf Try.prog 37 v = some kl) : ∃ l, EV l ∧ v = valE l ∧ kl = kl6 l := keyOf_six_inv arr6 Try.underlying5 types_pos h
theorem kl6_inj {d e : List Int} (hd : EV d) (he : EV e) (h : kl6 d = kl6 e) : d = e := valE_inj (law6.inj (key6 hd) (h ▸ key6 he))

/-- The sum of what was added at a key. -/
def sumK (S : List Tm) (e : List Int) : Int := ((S.filter fun p => p.2 == e).map (·.1)).sum
theorem sumK_snoc (S : List Tm) (d e : List Int) (c : Int) : sumK (S ++ [(c, d)]) e = sumK S e + if d = e then c else 0 := by
  unfold sumK
  rw [List.filter_append, List.map_append, List.sum_append]
  congr 1
  by_cases h : d = e
  · simp [h]
  · simp [h]
/-- The map holds the sums of the pairs. -/
structure MapIs (D : DataW Unit) (S : List Tm) : Prop where
  map : IsMap D
  has : ∀ e, EV e → Maps.has D (kl6 e) = S.any fun p => p.2 == e
  at0 : ∀ e, EV e → D.atKey (kl6 e) (.lit (.int .i64 0)) = .lit (.int .i64 (sumK S e))
theorem MapIs.start : MapIs (.map []) [] := ⟨isMap_empty, fun e _ => rfl, fun e _ => rfl⟩
theorem MapIs.step {D : DataW Unit} {S : List Tm} (h : MapIs D S) {d : List Int} (hd : EV d) (c : Int) : MapIs (D.put (kl6 d) (.lit (.int .i64 (sumK S d + c)))) (S ++ [(c, d)]) := by
  have hk : WideAt.IsKeyLit (kl6 d) := trivial
  refine ⟨h.map.put _ _, fun e he => ?_, fun e he => ?_⟩
  · by_cases q : e = d
    · subst q
      rw [has_put_same h.map hk]
      simp
    · rw [has_put_other (fun z => q (kl6_inj he hd z)), h.has e he]
      simp [show ¬ d = e from fun z => q z.symm]
  · by_cases q : e = d
    · subst q
      rw [atKey_put_same h.map hk, sumK_snoc, if_pos rfl]
    · rw [atKey_put_other (fun z => q (kl6_inj he hd z)), h.at0 e he, sumK_snoc, if_neg (fun z => q z.symm), Int.add_zero]
/-- The keys that have come. -/
def CollE (D : DataW Unit) (left : Lit → Bool) (ks : List (List Int)) : Prop := ks.Nodup ∧ (∀ e ∈ ks, EV e) ∧ ∀ e, EV e → (e ∈ ks ↔ Maps.has D (kl6 e) = true ∧ left (kl6 e) = false)
theorem CollE.start (D : DataW Unit) : CollE D (Maps.has D) [] := ⟨List.nodup_nil, fun e h => by simp at h, fun e _ => by cases Maps.has D (kl6 e) <;> simp⟩
theorem CollE.step {D : DataW Unit} {left : Lit → Bool} {ks : List (List Int)} (h : CollE D left ks) {x : List Int} (hx : EV x) {y : DataW Unit} (hlk : left (kl6 x) = true) (hat : ∀ zd, D.atKey (kl6 x) zd = y) : CollE D (fun z => left z && !z.sameKey (kl6 x)) (ks ++ [x]) := by
  have hhas : Maps.has D (kl6 x) = true := has_true_of_atKey hat
  have hnew : x ∉ ks := fun hm => by have := ((h.2.2 x hx).1 hm).2; rw [hlk] at this; cases this
  refine ⟨List.nodup_append.2 ⟨h.1, by simp, fun a ha b hb => by simp at hb; subst hb; exact fun e => hnew (e ▸ ha)⟩, fun e hm => ?_, fun e he => ?_⟩
  · rcases List.mem_append.1 hm with hm | hm
    · exact h.2.1 e hm
    · simp at hm; subst hm; exact hx
  · by_cases q : e = x
    · subst q
      simp [hhas, WideAt.sameKey_self (show WideAt.IsKeyLit (kl6 e) from trivial)]
    · simp [h.2.2 e he, q, sameKey_ne (fun z => q (kl6_inj he hx z))]
/-- At the end: just the keys. -/
def KeysE (S : List Tm) (ks : List (List Int)) : Prop := ks.Nodup ∧ (∀ e ∈ ks, EV e) ∧ ∀ e, EV e → (e ∈ ks ↔ S.any (fun p => p.2 == e) = true)
theorem CollE.all {D : DataW Unit} {left : Lit → Bool} {ks : List (List Int)} {S : List Tm} (h : CollE D left ks) (hM : MapIs D S) (hl : ∀ kl, left kl = false) : KeysE S ks :=
  ⟨h.1, h.2.1, fun e he => by rw [h.2.2 e he, hl, hM.has e he]; simp⟩
end Go.Proofs.Ytcamjoddaeefdaa
