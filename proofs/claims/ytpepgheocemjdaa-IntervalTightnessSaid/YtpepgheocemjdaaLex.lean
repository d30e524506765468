/-
  The text's order serves every order of a great region: a cheaper test.
-/
import Derived.Test.YtpepgheocemjdaaKit
import Derived.StillTail
namespace Go.Proofs.Ytpepgheocemjdaa
open Go.RowKit

def pairsB (ops : Array Oper) : List Oper → Nat → Bool
  | [], _ => true
  | o :: rest, k => (o.after.all fun e => !Region.binds .any e || decide (e.on < k)) && rest.all (fun o' => (o'.after.any fun e => Region.binds .any e && e.on == k) || o.apart ops o') && pairsB ops rest (k + 1)

theorem pairs_at {ops : Array Oper} : ∀ (l : List Oper) (k : Nat), pairsB ops l k = true → ∀ i o, l[i]? = some o →
    (∀ e ∈ o.after, Region.binds .any e = true → e.on < k + i) ∧ ∀ j o', i < j → l[j]? = some o' → (o'.after.any fun e => Region.binds .any e && e.on == k + i) = true ∨ o.apart ops o' = true
  | [], _, _, i, o, h => by simp at h
  | o0 :: rest, k, hp, i, o, h => by
    simp only [pairsB, Bool.and_eq_true] at hp
    obtain ⟨⟨h1, h2⟩, h3⟩ := hp
    match i, h with
    | 0, h =>
      simp at h
      subst h
      refine ⟨fun e he hb => ?_, fun j o' hj ho' => ?_⟩
      · have := (Array.all_eq_true'.1 h1) e he
        simpa [hb] using this
      · match j, hj, ho' with
        | j + 1, _, ho' =>
          have ho'' : rest[j]? = some o' := by simpa using ho'
          have := List.all_eq_true.1 h2 o' (List.mem_of_getElem? ho'')
          simpa using this
    | i + 1, h =>
      have h' : rest[i]? = some o := by simpa using h
      obtain ⟨q1, q2⟩ := pairs_at rest (k + 1) h3 i o h'
      refine ⟨fun e he hb => by have := q1 e he hb; omega, fun j o' hj ho' => ?_⟩
      match j, hj, ho' with
      | j + 1, hj, ho' =>
        have := q2 j o' (by omega) (by simpa using ho')
        rwa [show k + (i + 1) = k + 1 + i by omega]

theorem lex_from {l : List Oper} (hp : pairsB l.toArray l 0 = true) : ∀ (f k : Nat) (L : Array Bool), k + f = l.length → L.size = l.length → (∀ i, i < l.length → L[i]? = some (decide (i < k))) →
    Region.lexFrom .any l.toArray f k L = true
  | 0, k, L, hk, hs, hL => by
    simp only [Region.lexFrom, List.isEmpty_iff]
    have : ∀ i, i ∉ Region.ready .any l.toArray L := fun i hi => by
      obtain ⟨h1, o, ho, _⟩ := mem_ready.1 hi
      have hi' : i < l.length := by
        have := (Array.getElem?_eq_some_iff.1 ho).1
        simpa using this
      have := hL i hi'
      rw [Array.getD_eq_getD_getElem?, this] at h1
      simp at h1
      omega
    cases h : Region.ready .any l.toArray L with
    | nil => rfl
    | cons x xs => exact absurd (h ▸ List.mem_cons_self) (this x)
  | f + 1, k, L, hk, hs, hL => by
    have hkl : k < l.length := by omega
    have hok : l[k]? = some l[k] := by simp [hkl]
    have hok' : l.toArray[k]? = some l[k] := by simp [hkl]
    obtain ⟨q1, q2⟩ := pairs_at l 0 hp k l[k] hok
    simp only [Region.lexFrom, Bool.and_eq_true]
    refine ⟨⟨?_, ?_⟩, lex_from hp f (k + 1) _ (by omega) (by simp [hs]) fun i hi => ?_⟩
    · rw [List.contains_iff_mem]
      refine mem_ready.2 ⟨by rw [Array.getD_eq_getD_getElem?, hL k hkl]; simp, l[k], hok', fun e he hb => ?_⟩
      have := q1 e he hb
      rw [Array.getD_eq_getD_getElem?, hL e.on (by omega)]
      simp
      omega
    · unfold Region.free
      simp only [hok']
      refine List.all_eq_true.2 fun j hj => ?_
      have hjl : j < l.length := by have := List.mem_range.1 hj; simpa using this
      have hoj : l[j]? = some l[j] := by simp [hjl]
      have hoj' : l.toArray[j]? = some l[j] := by simp [hjl]
      rcases Nat.lt_trichotomy j k with h | h | h
      · rw [Array.getD_eq_getD_getElem?, hL j hjl]
        simp [h]
      · simp [h]
      · have := q2 j l[j] h hoj
        rw [Nat.zero_add] at this
        simp only [hoj']
        rcases this with h1 | h1
        · rw [h1]; simp
        · rw [h1]; simp
    · by_cases hik : k = i
      · subst hik
        simp [hs, hi]
      · rw [Array.getElem?_setIfInBounds_ne hik, hL i hi]
        congr 1
        simp
        omega

theorem lexB_of {l : List Oper} (hs : Region.noSelect l.toArray = true) (hp : pairsB l.toArray l 0 = true) : Region.lexB .any l.toArray = true := by
  unfold Region.lexB
  rw [hs, Bool.true_and]
  exact lex_from hp _ 0 _ (by simp) (by simp) fun i hi => by simp [hi]
end Go.Proofs.Ytpepgheocemjdaa
