/-
  Opening an argument that is a flat row of integers (an array or a struct by value).
-/
import Derived.Test.YtecmgiihacigaaaKit
import Derived.Carry
import Derived.Deep.QuietTactic
namespace Go.Proofs.Ytecmgiihacigaaa
open Go.RowKit Go.WideShapes Go.ChangeShapes

theorem cell_int {P : Program} {w : World} {r : Reach} {base : Nat} {u : TypeId} {k : IntKind} {v : Value} (hu : P.underlying u = some (.int k)) (h : Cell.okWide P w r base u v) : ∃ n, v = .int k n ∧ k.has n := by
  simp only [Cell.okWide, hu] at h
  cases v <;> simp_all [Cell.ok]

theorem row_ints {P : Program} {w : World} {r : Reach} {base : Nat} {t : TypeId} {k : IntKind} {ts : List TypeId} {cs : Array Value}
    (h : Row.okWide P w r base t cs) (hts : P.cellTypes P.depth t = some ts) (hk : ∀ u ∈ ts, P.underlying u = some (.int k)) :
    ∃ xs : List Int, cs = (xs.map (Value.int k)).toArray ∧ ∀ x ∈ xs, k.has x := by
  obtain ⟨ts', h1, _, h3⟩ := h
  rw [hts] at h1
  obtain rfl := Option.some.inj h1
  have hc : ∀ v ∈ cs.toList, ∃ n, v = .int k n ∧ k.has n := by
    intro v hv
    obtain ⟨i, hi, rfl⟩ := List.getElem_of_mem hv
    obtain ⟨u, hu, hok⟩ := h3 i (cs.toList[i]) (by rw [← Array.getElem?_toList]; exact List.getElem?_eq_getElem hi)
    exact cell_int (hk u (List.mem_of_getElem? hu)) hok
  have hl : ∀ l : List Value, (∀ v ∈ l, ∃ n, v = .int k n ∧ k.has n) → ∃ xs : List Int, l = xs.map (Value.int k) ∧ ∀ x ∈ xs, k.has x := by
    intro l
    induction l with
    | nil => exact fun _ => ⟨[], rfl, by simp⟩
    | cons v l ih =>
      intro h
      obtain ⟨n, rfl, hn⟩ := h v (by simp)
      obtain ⟨xs, rfl, hx⟩ := ih (fun v hv => h v (by simp [hv]))
      exact ⟨n :: xs, rfl, by simpa using ⟨hn, hx⟩⟩
  obtain ⟨xs, e, hx⟩ := hl _ hc
  exact ⟨xs, by apply Array.toList_inj.1; rw [e], hx⟩

theorem open_array_ints {P : Program} {w : World} {r : Reach} {base : Nat} {t e : TypeId} {n : Nat} {k : IntKind} {ts : List TypeId} {v : Value}
    (ht : P.underlying t = some (.array n e)) (h : Value.okWide P w r base t v) (hts : P.cellTypes P.depth t = some ts) (hk : ∀ u ∈ ts, P.underlying u = some (.int k)) :
    ∃ xs : List Int, v = .agg (xs.map (Value.int k)).toArray ∧ xs.length = P.cellsOf t ∧ ∀ x ∈ xs, k.has x := by
  simp only [Value.okWide, ht] at h
  obtain ⟨cs, rfl, hsz, hr⟩ := h
  obtain ⟨xs, rfl, hx⟩ := row_ints hr hts hk
  exact ⟨xs, rfl, by simpa using hsz, hx⟩
theorem open_struct_ints {P : Program} {w : World} {r : Reach} {base : Nat} {t : TypeId} {fs : Array Field} {k : IntKind} {ts : List TypeId} {v : Value}
    (ht : P.underlying t = some (.struct fs)) (h : Value.okWide P w r base t v) (hts : P.cellTypes P.depth t = some ts) (hk : ∀ u ∈ ts, P.underlying u = some (.int k)) :
    ∃ xs : List Int, v = .agg (xs.map (Value.int k)).toArray ∧ xs.length = P.cellsOf t ∧ ∀ x ∈ xs, k.has x := by
  simp only [Value.okWide, ht] at h
  obtain ⟨cs, rfl, hsz, hr⟩ := h
  obtain ⟨xs, rfl, hx⟩ := row_ints hr hts hk
  exact ⟨xs, rfl, by simpa using hsz, hx⟩
theorem zip_ints : ∀ (ks : List IntKind) (vs : List Value), vs.length = ks.length → (∀ (i : Nat) (v : Value) (k : IntKind), vs[i]? = some v → ks[i]? = some k → ∃ n, v = .int k n ∧ k.has n) →
    ∃ xs : List Int, vs = List.zipWith Value.int ks xs ∧ xs.length = ks.length ∧ ∀ p ∈ List.zip ks xs, p.1.has p.2
  | [], [], _, _ => ⟨[], rfl, rfl, by simp⟩
  | k :: ks, v :: vs, hl, h => by
    obtain ⟨n, rfl, hn⟩ := h 0 v k (by simp) (by simp)
    obtain ⟨xs, rfl, h2, h3⟩ := zip_ints ks vs (by simpa using hl) (fun i v k hv hk => h (i + 1) v k (by simpa using hv) (by simpa using hk))
    refine ⟨n :: xs, rfl, by simp [h2], fun p hp => ?_⟩
    simp only [List.zip_cons_cons, List.mem_cons] at hp
    rcases hp with rfl | hp
    · exact hn
    · exact h3 p hp
  | [], _ :: _, hl, _ => by simp at hl
  | _ :: _, [], hl, _ => by simp at hl
theorem open_struct_mixed {P : Program} {w : World} {r : Reach} {base : Nat} {t : TypeId} {fs : Array Field} {ks : List IntKind} {ts : List TypeId} {v : Value}
    (ht : P.underlying t = some (.struct fs)) (h : Value.okWide P w r base t v) (hts : P.cellTypes P.depth t = some ts) (hn : P.cellsOf t = ks.length) (hlen : ts.length = ks.length) (hk : ∀ p ∈ List.zip ts ks, P.underlying p.1 = some (.int p.2)) :
    ∃ xs : List Int, v = .agg (List.zipWith Value.int ks xs).toArray ∧ xs.length = ks.length ∧ ∀ p ∈ List.zip ks xs, p.1.has p.2 := by
  simp only [Value.okWide, ht] at h
  obtain ⟨cs, rfl, hsz, hr⟩ := h
  obtain ⟨ts', h1, _, h3⟩ := hr
  rw [hts] at h1
  obtain rfl := Option.some.inj h1
  obtain ⟨xs, e, hx, hh⟩ := zip_ints ks cs.toList (by rw [Array.length_toList, hsz, hn]) (fun i v k hv hkk => by
    obtain ⟨u, hu, hok⟩ := h3 i v (by rw [← Array.getElem?_toList]; exact hv)
    refine cell_int (hk (u, k) ?_) hok
    refine List.mem_of_getElem? (i := i) ?_
    have hi : i < ts.length := by rw [hlen]; exact (List.getElem?_eq_some_iff.1 hkk).1
    rw [Nat.mod_eq_of_lt hi] at hu
    rw [List.getElem?_zip_eq_some]
    exact ⟨hu, hkk⟩)
  exact ⟨xs, by congr 1; apply Array.toList_inj.1; rw [e], hx, hh⟩
theorem laidOut : laidOutB Try.prog = true := by kernel_rfl
end Go.Proofs.Ytecmgiihacigaaa
