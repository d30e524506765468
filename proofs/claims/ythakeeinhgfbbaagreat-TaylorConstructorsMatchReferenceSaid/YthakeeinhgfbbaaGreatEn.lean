/-
  'm[k] += x' on a map that the call made: the entry taken ahead of the look-up or behind it.
-/
import Derived.Test.YthakeeinhgfbbaaGreatCo
import Derived.WideKeyEntry
import Derived.Maps.AppendAt
namespace Go.Proofs.YthakeeinhgfbbaaGreat
open Go.ChangeShapes Go.WideShapes Go.ChangeAt Go.RowKit Go.Maps
open Go.WideMaps (KeyLaw)
open Go.WideElems (Fit rd rg pl entry_then_store)
open Go.ChangeMaps (setBlock heap_setBlock_same heap_setBlock_other)
set_option linter.unusedVariables false
set_option linter.unusedSimpArgs false
set_option maxRecDepth 100000

theorem grownBy_setBlock {w : World} {b : Nat} {es : Array MapEntry} {c : Nat} (h : w.heap[b]? = some (.map es c)) (o' : Obj) : w.grownBy (setBlock w b o') (some b) :=
  ⟨rfl, rfl, rfl, by simp [setBlock], fun i _ hi => heap_setBlock_other h _ (fun e => hi (by rw [e]))⟩
theorem uniq_key : ∀ {l : List MapEntry}, l.Pairwise (fun x y => x.key ≠ y.key) → ∀ {x y : MapEntry}, x ∈ l → y ∈ l → x.key = y.key → x = y
  | [], _, _, _, h, _, _ => by simp at h
  | a :: l, h, x, y, hx, hy, e => by
    obtain ⟨h1, h2⟩ := List.pairwise_cons.1 h
    rcases List.mem_cons.1 hx with q | hx1
    · rcases List.mem_cons.1 hy with q1 | hy1
      · exact q.trans q1.symm
      · exact absurd (q ▸ e) (h1 y hy1)
    · rcases List.mem_cons.1 hy with q1 | hy1
      · exact absurd (q1 ▸ e).symm (h1 x hx1)
      · exact uniq_key h2 hx1 hy1 e
/-- The entry, the look-up on both sides of it, the store. -/
theorem entry_own {P : Program} {k e t : TypeId} {q : IntKind} {w : World} {b n : Nat} {D : DataW Unit} (h : w.ownsMap P k (plainElem P e) b n D) (L : KeyLaw P k) (ht : P.underlying t = some (.map k e)) (he : P.underlying e = some (.int q))
    (hz : ∀ u : World, (zeroValue e).run P u = .ok (.int q 0) u) (hn : n < maxLen) {key : Value} {kl : Lit} (hkey : keyOf P k key = some kl) :
    ∃ (c : Int) (st : Nat) (w2 : World), (Instr.lookup t (.map (some b)) key false).run P w = .ok (.int q c) w ∧ D.atKey kl (.lit (.int q 0)) = .lit (.int q c) ∧ (Lit.int q c).wf = true ∧
      (Instr.mapEntry t (.map (some b)) key).run P w = .ok (.tuple #[.int q c, .int .i64 st]) w2 ∧ (Instr.lookup t (.map (some b)) key false).run P w2 = .ok (.int q c) w2 ∧ w.grownBy w2 (some b) ∧
      ∀ a : Int, (Lit.int q a).wf = true → ∃ w3, (Instr.entryStore t (.map (some b)) (.int .i64 st) (.int q a)).run P w2 = .ok () w3 ∧ w3.ownsMap P k (plainElem P e) b (n + 1) (D.put kl (.lit (.int q a))) ∧ w.grownBy w3 (some b) := by
  have K := Keyed.of_law L
  have h' := h
  obtain ⟨c, hlk, hat, hwf⟩ := h.lookup_int K ht he (hz w) hkey
  obtain ⟨es, clock, hb, F, hs, rfl⟩ := h'
  obtain ⟨v0, st, es1, clock1, he1, hv0, hst⟩ := entry_then_store L ht hz hb F hkey
  have hb2 : (setBlock w b (.map es1 clock1)).heap[b]? = some (.map es1 clock1) := heap_setBlock_same hb _
  -- the entry's value is the look-up's
  have hvc : v0 = .int q c := by
    rcases Maps.fit_look false K ht (hz w) hb F hkey with ⟨hrun, hno, _⟩ | ⟨e0, y, hm, hk0, hrun, _⟩
    · rcases hv0 with ⟨e1, hm1, hk1, _⟩ | ⟨_, rfl⟩
      · exact absurd hk1 (hno e1 hm1)
      · rw [hlk] at hrun
        simpa using hrun.symm
    · rcases hv0 with ⟨e1, hm1, hk1, rfl⟩ | ⟨hno, _⟩
      · have hnd : es.toList.Pairwise (fun x y => x.key ≠ y.key) := ((MapKept.stamped_iff es clock).1 F.stamped).2.2
        have e01 : e1 = e0 := uniq_key hnd hm1 hm (hk1.trans hk0.symm)
        subst e01
        rw [hlk] at hrun
        simpa using hrun.symm
      · exact absurd hk0 (hno e0 hm)
  subst hvc
  -- the store of that very value: the look-up behind the entry
  obtain ⟨es', clock', hs1, hup⟩ := hst (setBlock w b (.map es1 clock1)) (.int q c) hb2
  refine ⟨c, st, setBlock w b (.map es1 clock1), hlk, hat, hwf, he1, ?_, grownBy_setBlock hb _, fun a ha => ?_⟩
  · rcases L.find (setBlock w b (.map es1 clock1)) hkey es.toList F.keys with ⟨h1, h2⟩ | ⟨j, e0, h1, h2, h3⟩
    · have hd : (Instr.mapEntry t (.map (some b)) key).run P w = .ok (.tuple #[.int q 0, .int .i64 clock]) (setBlock w b (.map (es.push ⟨key, .int q 0, clock⟩) (clock + 1))) := by
        rcases L.find w hkey es.toList F.keys with ⟨h1', _⟩ | ⟨j, e0, _, h2', h3'⟩
        · simp [Instr.mapEntry, run_underlying ht, MapKept.run_getObj_map hb, L.check w false hkey, h1', hz, MapKept.run_setObj_map _ hb, Result.andThen, setBlock, goInt]
        · exact absurd h3' (h2 e0 (List.mem_of_getElem? h2'))
      rw [he1] at hd
      simp only [Result.ok.injEq, Value.tuple.injEq] at hd
      have hc0 : c = 0 := by have := hd.1; simp at this; exact this.1
      have hes : setBlock w b (.map es1 clock1) = setBlock w b (.map (es.push ⟨key, .int q 0, clock⟩) (clock + 1)) := hd.2
      have hes1 : es1 = es.push ⟨key, .int q 0, clock⟩ := by
        have e1 := hb2
        rw [hes, heap_setBlock_same hb] at e1
        simp only [Option.some.injEq, Obj.map.injEq] at e1
        exact e1.1.symm
      have hkeys : ∀ x ∈ es1.toList, ∃ l, keyOf P k x.key = some l := by
        intro x hx
        rw [hes1, Array.toList_push, List.mem_append] at hx
        rcases hx with hx | hx
        · exact F.keys x hx
        · simp at hx; subst hx; exact ⟨kl, hkey⟩
      rcases L.find (setBlock w b (.map es1 clock1)) hkey es1.toList hkeys with ⟨_, g2⟩ | ⟨j, e0, g1, g2, g3⟩
      · exact absurd rfl (g2 ⟨key, .int q 0, clock⟩ (by rw [hes1]; simp))
      · have hm0 := List.mem_of_getElem? g2
        rw [hes1, Array.toList_push, List.mem_append] at hm0
        rcases hm0 with hm0 | hm0
        · exact absurd g3 (h2 e0 hm0)
        · simp at hm0
          subst hm0
          subst hc0
          simp [Instr.lookup, run_underlying ht, MapKept.run_getObj_map hb2, L.check _ _ hkey, g1, Result.andThen]
    · have hsame : setBlock w b (.map es1 clock1) = setBlock w b (.map es clock) := by
        rcases L.find w hkey es.toList F.keys with ⟨_, h2'⟩ | ⟨j', e0', h1', h2', h3'⟩
        · exact absurd h3 (h2' e0 (List.mem_of_getElem? h2))
        · have hj : es[j']? = some e0' := by simpa using h2'
          have hmod : es.modify j' (fun e => { e with key := key }) = es := by
            apply Array.ext'
            rw [Array.toList_modify, ChangeMaps.modify_eq_set _ _ _ _ h2']
            have : ({ e0' with key := key } : MapEntry) = e0' := by rw [← h3']
            rw [this]
            exact WideElems.set_self _ _ _ h2'
          have hd : (Instr.mapEntry t (.map (some b)) key).run P w = .ok (.tuple #[e0'.val, .int .i64 e0'.born]) (setBlock w b (.map es clock)) := by
            simp [Instr.mapEntry, run_underlying ht, MapKept.run_getObj_map hb, L.check w false hkey, h1', hj, h3', L.stays w hkey, hmod, MapKept.run_setObj_map _ hb, Result.andThen, setBlock, goInt]
          rw [he1] at hd
          simp only [Result.ok.injEq] at hd
          exact hd.2
      rw [hsame]
      have hb3 : (setBlock w b (.map es clock)).heap[b]? = some (.map es clock) := heap_setBlock_same hb _
      have hw3 : (setBlock w b (.map es clock)).ownsMap P k (plainElem P e) b n (.map ((es.toList.map (rg P k (plainElem P e))).foldr DataW.insert [])) := ⟨es, clock, hb3, F, hs, rfl⟩
      obtain ⟨c', hlk', hat', _⟩ := hw3.lookup_int K ht he (hz _) hkey
      rw [hat] at hat'
      have : c = c' := by simpa using hat'
      subst this
      exact hlk'
  · obtain ⟨es2, clock2, hs2, hup2⟩ := hst (setBlock w b (.map es1 clock1)) (.int q a) hb2
    obtain ⟨w', hrun, hown', hg'⟩ := World.ownsMap.update (val := .int q a) ⟨es, clock, hb, F, hs, rfl⟩ K ht hn hkey (plainElem_int he ha)
    rw [hup2] at hrun
    simp only [Result.ok.injEq, true_and] at hrun
    subst hrun
    refine ⟨_, hs2, ?_, (grownBy_setBlock hb _).trans (grownBy_setBlock hb2 _)⟩
    obtain ⟨es3, clock3, hb3, F3, hs3, hD3⟩ := hown'
    rw [heap_setBlock_same hb] at hb3
    exact ⟨es3, clock3, by rw [heap_setBlock_same hb2]; exact hb3, F3, hs3, hD3⟩
end Go.Proofs.YthakeeinhgfbbaaGreat
