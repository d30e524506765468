/-
  Package poly: multiplied.
-/
import Derived.Test.YtcamjoddaeefdaaMs
namespace Go.Proofs.Ytcamjoddaeefdaa
open Go.ChangeShapes Go.WideShapes Go.ChangeAt Go.RowKit Go.Shelf
set_option linter.unusedVariables false
set_option linter.unusedSimpArgs false
set_option maxRecDepth 100000

attribute [local irreducible] Calls
theorem heapT_cell {W : World} {b k : Nat} {cs : Array Value} {t : TypeId} {z : Nat × Nat} {u : Value} (h : W.heap[b]? = some (.cells cs t z)) (hk : cs[k]? = some u) : W.cell? ⟨b, k, none⟩ = some u := by
  simp [World.cell?, h, hk]
/-- The inner loop's state. -/
def MuJ (w : World) (l m : List Tm) (k jj : Nat) (s : Tm) (B : Nat) (W : World) : Prop :=
  MuI w (pairsT (l.take k) m ++ (m.take jj).map fun t => (s, t)) (missM (pairsT (l.take k) m ++ (m.take jj).map fun t => (s, t))) W ∧ W.heap[B]? = some (.cells (encT s).toArray 39 (0, 0))
/-- The product's terms among the first keys. -/
def prodK (S : List Tm) (ks : List E6) : List Tm := (ks.map fun e => (sumK S e.1, e.1)).filter fun t => t.1 != 0
theorem prodK_in {S : List Tm} {ks : List E6} {k : Nat} {x : E6} (hx : ks[k]? = some x) (h : sumK S x.1 ≠ 0) : prodK S (ks.take (k + 1)) = prodK S (ks.take k) ++ [(sumK S x.1, x.1)] := by
  unfold prodK
  rw [List.take_add_one, hx, List.map_append, List.filter_append]
  simp [h]
theorem prodK_out {S : List Tm} {ks : List E6} {k : Nat} {x : E6} (hx : ks[k]? = some x) (h : sumK S x.1 = 0) : prodK S (ks.take (k + 1)) = prodK S (ks.take k) := by
  unfold prodK
  rw [List.take_add_one, hx, List.map_append, List.filter_append]
  simp [h]
theorem prodK_len (S : List Tm) (ks : List E6) : (prodK S ks).length ≤ ks.length := Nat.le_trans (List.length_filter_le _ _) (by simp)
theorem prodK_ev (S : List Tm) (ks : List E6) : ∀ t ∈ prodK S ks, t.2.length = 6 := fun t ht => by
  obtain ⟨x, _, rfl⟩ := List.mem_map.1 (List.mem_filter.1 ht).1
  exact x.2.1
theorem pairs_mem {l m : List Tm} {p : Tm × Tm} (h : p ∈ pairsT l m) : p.1 ∈ l ∧ p.2 ∈ m := by
  unfold pairsT at h
  obtain ⟨s, hs, h⟩ := List.mem_flatMap.1 h
  obtain ⟨t, ht, rfl⟩ := List.mem_map.1 h
  exact ⟨hs, ht⟩
theorem q_mem {l m : List Tm} {k jj : Nat} {s : Tm} (hs : l[k]? = some s) {p : Tm × Tm} (h : p ∈ pairsT (l.take k) m ++ (m.take jj).map fun t => (s, t)) : p.1 ∈ l ∧ p.2 ∈ m := by
  rcases List.mem_append.1 h with h | h
  · have := pairs_mem h
    exact ⟨List.mem_of_mem_take this.1, this.2⟩
  · obtain ⟨t, ht, rfl⟩ := List.mem_map.1 h
    exact ⟨List.mem_of_getElem? hs, List.mem_of_mem_take ht⟩
theorem q_len {l m : List Tm} {k jj : Nat} {s : Tm} (hk : k < l.length) (hj : jj ≤ m.length) : (pairsT (l.take k) m ++ (m.take jj).map fun t => (s, t)).length ≤ l.length * m.length := by
  rw [List.length_append, pairs_len, List.length_map, List.length_take, List.length_take]
  have h1 : min k l.length = k := by omega
  have h2 : min jj m.length = jj := by omega
  rw [h1, h2]
  have := Nat.mul_le_mul_right m.length (show k + 1 ≤ l.length from hk)
  rw [Nat.add_mul, Nat.one_mul] at this
  omega
theorem kx_rd {w : World} {p : Option Addr} {n c i : Nat} {xs : List E6} {a0 a1 a2 a3 a4 a5 : Int} {x : E6} (h : Kx w (.slice p n c) xs) (hx : xs[i]? = some x) (he : x.1 = [a0, a1, a2, a3, a4, a5]) : ∃ b, p = some ⟨b, 0, none⟩ ∧ b < w.heap.size ∧ ∀ g : Grown w, g.w.cell? ⟨b, i * 6, none⟩ = some (.int .u8 a0) ∧ g.w.cell? ⟨b, i * 6 + 1, none⟩ = some (.int .u8 a1) ∧ g.w.cell? ⟨b, i * 6 + 2, none⟩ = some (.int .u8 a2) ∧ g.w.cell? ⟨b, i * 6 + 3, none⟩ = some (.int .u8 a3) ∧ g.w.cell? ⟨b, i * 6 + 4, none⟩ = some (.int .u8 a4) ∧ g.w.cell? ⟨b, i * 6 + 5, none⟩ = some (.int .u8 a5) := by
  obtain ⟨_, q, c', e, h⟩ := h
  obtain ⟨b, hq, h1, h2⟩ := h i x hx
  simp only [Value.slice.injEq] at e
  have h3 : ∀ j u, ([.int .u8 a0, .int .u8 a1, .int .u8 a2, .int .u8 a3, .int .u8 a4, .int .u8 a5] : List Value)[j]? = some u → w.cell? ⟨b, i * 6 + j, none⟩ = some u := fun j u hu => by have := h2 j u (by unfold encE; rw [he]; exact hu); rwa [Nat.zero_add] at this
  exact ⟨b, e.1.trans hq, h1, fun g => ⟨(g.cell h1).trans (h3 0 _ rfl), (g.cell h1).trans (h3 1 _ rfl), (g.cell h1).trans (h3 2 _ rfl), (g.cell h1).trans (h3 3 _ rfl), (g.cell h1).trans (h3 4 _ rfl), (g.cell h1).trans (h3 5 _ rfl)⟩⟩
set_option maxHeartbeats 16000000 in
theorem multiplied_ok (v u : Value) (l m : List Tm) (w : World) (hv : Tx w v l) (hu : Tx w u m) (hl : ∀ t ∈ l, TV t ∧ Num t.1) (hm : ∀ t ∈ m, TV t ∧ Num t.1) (hsm : l.length * m.length ≤ 10000) :
    Calls Try.prog 42 #[v, u] w fun e w' => ∃ r, e = .returned (.tuple #[r, .agg #[.int .i64 (missM (pairsT l m)).1, .int .i64 (missM (pairsT l m)).2]]) ∧ Tx w' r (mulP l m) ∧ NewB w.heap.size r ∧ Below w.heap.size w w' := by
  obtain ⟨MR, hMR⟩ : ∃ R, mulP l m = R := ⟨_, rfl⟩
  obtain ⟨⟨n1, n2⟩, hNN⟩ : ∃ R, missM (pairsT l m) = R := ⟨_, rfl⟩
  rw [hMR, hNN]
  dsimp only
  have HMR := Lib.hid hMR
  have HNN := Lib.hid hNN
  clear hMR hNN
  obtain ⟨i0, hi, hz0, hz1, hz2⟩ := info_parts info_t
  obtain ⟨p, cp, rfl⟩ := hv.cut
  obtain ⟨p', cp', rfl⟩ := hu.cut
  have hll := hv.1
  have hml := hu.1
  unfold maxLen at hll hml
  have HV := Lib.hid hv
  have HU := Lib.hid hu
  have HL := Lib.hid hl
  have HM := Lib.hid hm
  have HSM := Lib.hid hsm
  clear hv hu hl hm hsm
  have hmm := @run_makeMap Try.prog
  have h0 : Hid (MuI w [] (0, 0) (((w.alloc (.cells #[.int .i64 0, .int .i64 0] 33)).alloc (.map #[] 0)).alloc (.cells #[.int .i64 0, .int .i64 0] 33))) := by
    have hb := ((((Below.refl w.heap.size w).alloc (Nat.le_refl _) (.cells #[.int .i64 0, .int .i64 0] 33)).alloc (by simp) (.map #[] 0)).alloc (by simp; omega) (.cells #[.int .i64 0, .int .i64 0] 33))
    refine Lib.hid ⟨⟨.map [], ?_, MapIs.start⟩, ?_, ?_, hb, by simp⟩
    · have := World.ownsMap_made (H := Unit) (w.alloc (.cells #[.int .i64 0, .int .i64 0] 33)) Try.prog 37 (plainElem Try.prog 2)
      rw [World.size_alloc] at this
      exact this.alloc _
    · have := World.alloc_heap_new ((w.alloc (.cells #[.int .i64 0, .int .i64 0] 33)).alloc (.map #[] 0)) (.cells #[.int .i64 0, .int .i64 0] 33)
      simp only [World.size_alloc] at this
      exact this
    · exact (Below.heap_alloc _ _ _ (by simp; omega)).trans ((Below.heap_alloc _ _ _ (by simp)).trans (World.alloc_heap_new w _))
  go_enter Try.func42, Try.ntmps42
  go_wp2_with (fail)
  go_loopw [22] (fun i wr => ∃ k : Nat, i = .int .i64 k ∧ k ≤ l.length ∧ Hid (MuI w (pairsT (l.take k) m) (missM (pairsT (l.take k) m)) wr)) (fun i _ => l.length - (intOf i).toNat)
  case atStart => exact ⟨0, rfl, Nat.zero_le _, h0⟩
  case round =>
    clear hmm h0
    obtain ⟨wo, rfl⟩ : ∃ wo, wo = wr := ⟨_, rfl⟩
    obtain ⟨k, rfl, hk, HR⟩ := hrel
    by_cases hlt : k < l.length
    · have i1 : (k : Int) < l.length := by omega
      obtain ⟨s, hx⟩ : ∃ s, l[k]? = some s := ⟨_, List.getElem?_eq_getElem hlt⟩
      have hsv := HL.out s (List.mem_of_getElem? hx)
      obtain ⟨ka, a0, a1, a2, a3, a4, a5, rfl⟩ := six_at hsv.1
      obtain ⟨b, o, hp, hb, rd⟩ := HV.out.rd7 hx
      subst hp
      obtain ⟨f0, f1, f2, f3, f4, f5, f6⟩ := rd ⟨wo, HR.out.bel⟩
      dsimp only at f0 f1 f2 f3 f4 f5 f6
      have HX := Lib.hid hx
      have HSV := Lib.hid hsv
      clear rd hx hsv
      go_wp2_with (fail)
      have hJ0 : Hid (MuJ w l m k 0 (ka, [a0, a1, a2, a3, a4, a5]) wo.heap.size (wo.alloc (.cells #[.int .i64 ka, .int .u8 a0, .int .u8 a1, .int .u8 a2, .int .u8 a3, .int .u8 a4, .int .u8 a5] 39))) := Lib.hid ⟨by simpa using HR.out.grow ((Below.refl _ _).alloc (Nat.le_refl _) _), World.alloc_heap_new wo _⟩
      clear f0 f1 f2 f3 f4 f5 f6
      go_loopw [28] (fun j w2 => ∃ jj : Nat, j = .int .i64 jj ∧ jj ≤ m.length ∧ Hid (MuJ w l m k jj (ka, [a0, a1, a2, a3, a4, a5]) wo.heap.size w2)) (fun j _ => m.length - (intOf j).toNat)
      case atStart => exact ⟨0, rfl, Nat.zero_le _, hJ0⟩
      case round =>
        clear hJ0
        obtain ⟨jj, rfl, hj, HJ⟩ := hrel
        by_cases hjl : jj < m.length
        · have i2 : (jj : Int) < m.length := by omega
          obtain ⟨t, hy⟩ : ∃ t, m[jj]? = some t := ⟨_, List.getElem?_eq_getElem hjl⟩
          have htv := HM.out t (List.mem_of_getElem? hy)
          obtain ⟨kb, b0, b1, b2, b3, b4, b5, rfl⟩ := six_at htv.1
          obtain ⟨b', o', hp', hb', rd⟩ := HU.out.rd7 hy
          subst hp'
          obtain ⟨f0, f1, f2, f3, f4, f5, f6⟩ := rd ⟨wr, HJ.out.1.bel⟩
          dsimp only at f0 f1 f2 f3 f4 f5 f6
          have HY := Lib.hid hy
          have hsB : wr.heap[wo.heap.size]? = some (.cells #[.int .i64 ka, .int .u8 a0, .int .u8 a1, .int .u8 a2, .int .u8 a3, .int .u8 a4, .int .u8 a5] 39 (0, 0)) := HJ.out.2
          have x0 := heapT_cell hsB (k := 0) rfl
          have x1 := heapT_cell hsB (k := 1) rfl
          have x2 := heapT_cell hsB (k := 2) rfl
          have x3 := heapT_cell hsB (k := 3) rfl
          have x4 := heapT_cell hsB (k := 4) rfl
          have x5 := heapT_cell hsB (k := 5) rfl
          have x6 := heapT_cell hsB (k := 6) rfl
          have hBs : wo.heap.size < wr.heap.size := (Array.getElem?_eq_some_iff.1 hsB).1
          have hJn := Lib.hid (fun W => join_ok [a0, a1, a2, a3, a4, a5] [b0, b1, b2, b3, b4, b5] W HSV.out.1.1 htv.1.1)
          rw [show valE [a0, a1, a2, a3, a4, a5] = .agg #[.int .u8 a0, .int .u8 a1, .int .u8 a2, .int .u8 a3, .int .u8 a4, .int .u8 a5] from rfl, show valE [b0, b1, b2, b3, b4, b5] = .agg #[.int .u8 b0, .int .u8 b1, .int .u8 b2, .int .u8 b3, .int .u8 b4, .int .u8 b5] from rfl] at hJn
          obtain ⟨c0, c1, c2, c3, c4, c5, hce⟩ := six_of (add_ev HSV.out.1.1 htv.1.1)
          rw [hce, show valE [c0, c1, c2, c3, c4, c5] = .agg #[.int .u8 c0, .int .u8 c1, .int .u8 c2, .int .u8 c3, .int .u8 c4, .int .u8 c5] from rfl] at hJn
          have HCV : Hid (EV [c0, c1, c2, c3, c4, c5]) := Lib.hid (by rw [← hce]; exact add_ev HSV.out.1.1 htv.1.1)
          have hMu := Lib.hid (fun W => mul_any ka kb W (by have := HSV.out.2; unfold Num at this; omega) (by have := HSV.out.2; unfold Num at this; omega) (by have := htv.2; unfold Num at this; omega) (by have := htv.2; unfold Num at this; omega))
          have hpb := pr_bd (p := ((ka, [a0, a1, a2, a3, a4, a5]), (kb, [b0, b1, b2, b3, b4, b5]))) HSV.out.2 htv.2
          have hpr : prT ((ka, [a0, a1, a2, a3, a4, a5]), (kb, [b0, b1, b2, b3, b4, b5])) = (dn (ka * kb) 65536, [c0, c1, c2, c3, c4, c5]) := by unfold prT; dsimp only; rw [hce]
          have hrp : rndP ((ka, [a0, a1, a2, a3, a4, a5]), (kb, [b0, b1, b2, b3, b4, b5])) = if dn (ka * kb) 65536 = up (ka * kb) 65536 then (0, 0) else rndE [c0, c1, c2, c3, c4, c5] := by unfold rndP; dsimp only; rw [hce]
          have hms := missM_snoc (pairsT (l.take k) m ++ (m.take jj).map fun t => ((ka, [a0, a1, a2, a3, a4, a5]), t)) ((ka, [a0, a1, a2, a3, a4, a5]), (kb, [b0, b1, b2, b3, b4, b5]))
          have hmb := miss_bd (pairsT (l.take k) m ++ (m.take jj).map fun t => ((ka, [a0, a1, a2, a3, a4, a5]), t))
          have hql : (pairsT (l.take k) m ++ (m.take jj).map fun t => ((ka, [a0, a1, a2, a3, a4, a5]), t)).length ≤ 10000 := Nat.le_trans (q_len hlt hj) HSM.out
          have HQL := Lib.hid hql
          have HQB : Hid (∀ q ∈ pairsT (l.take k) m ++ (m.take jj).map fun t => ((ka, [a0, a1, a2, a3, a4, a5]), t), -140737488355328 ≤ (prT q).1 ∧ (prT q).1 ≤ 140737488355328) := Lib.hid fun q hq => pr_bd (HL.out q.1 (q_mem HX.out hq).1).2 (HM.out q.2 (q_mem HX.out hq).2).2
          have HJM := Lib.hid HJ.out.1
          have HJS := Lib.hid HJ.out.2
          rw [hpr] at hpb
          rw [hrp] at hms
          clear hrp
          generalize dn (ka * kb) 65536 = D at *
          generalize up (ka * kb) 65536 = U at *
          have HDB : Hid (-140737488355328 ≤ D ∧ D ≤ 140737488355328) := Lib.hid hpb
          have HPR := Lib.hid hpr
          clear hpr hpb hce hsB htv rd hy HJ
          go_wp2_with (fail)
          refine (hJn.out _).mono ?_
          rintro e1 w3 ⟨rfl, hB3⟩
          have hb2t : Below wr.heap.size wr (wr.alloc (.cells #[.int .i64 kb, .int .u8 b0, .int .u8 b1, .int .u8 b2, .int .u8 b3, .int .u8 b4, .int .u8 b5] 39)) := (Below.refl _ _).alloc (Nat.le_refl _) _
          have hB3' := below_then hb2t hB3
          have hs3 : w3.heap[wo.heap.size]? = some (.cells #[.int .i64 ka, .int .u8 a0, .int .u8 a1, .int .u8 a2, .int .u8 a3, .int .u8 a4, .int .u8 a5] 39 (0, 0)) := (hB3'.block _ hBs).trans HJS.out
          have ht3 : w3.heap[wr.heap.size]? = some (.cells #[.int .i64 kb, .int .u8 b0, .int .u8 b1, .int .u8 b2, .int .u8 b3, .int .u8 b4, .int .u8 b5] 39 (0, 0)) := (hB3.block _ (by simp)).trans (World.alloc_heap_new wr _)
          have y0 := heapT_cell hs3 (k := 0) rfl
          have y1 := heapT_cell ht3 (k := 0) rfl
          have hlt1 : wo.heap.size < w3.heap.size := (Array.getElem?_eq_some_iff.1 hs3).1
          have hlt2 : wr.heap.size < w3.heap.size := (Array.getElem?_eq_some_iff.1 ht3).1
          have HS3 := Lib.hid hs3
          have HB3 := Lib.hid hB3'
          clear hs3 ht3 hB3 hB3' hb2t x0 x1 x2 x3 x4 x5 x6 f0 f1 f2 f3 f4 f5 f6
          go_wp2_with (fail)
          refine (hMu.out _).mono ?_
          rintro e2 w4 ⟨rfl, hB4⟩
          have hb3e : Below w3.heap.size w3 (w3.alloc (.cells #[.int .u8 c0, .int .u8 c1, .int .u8 c2, .int .u8 c3, .int .u8 c4, .int .u8 c5] 37)) := (Below.refl _ _).alloc (Nat.le_refl _) _
          have hB4' := below_then hb3e hB4
          have he4 : ByB w4 w3.heap.size [c0, c1, c2, c3, c4, c5] := (hB4.block _ (by simp)).trans (World.alloc_heap_new w3 _)
          have hs4 : w4.heap[wo.heap.size]? = some (.cells #[.int .i64 ka, .int .u8 a0, .int .u8 a1, .int .u8 a2, .int .u8 a3, .int .u8 a4, .int .u8 a5] 39 (0, 0)) := (hB4'.block _ hlt1).trans HS3.out
          have HM4 := Lib.hid (HJM.out.grow (HB3.out.trans (hB4'.mono HB3.out.size)))
          have HE4 := Lib.hid he4
          have HS4 := Lib.hid hs4
          have HCE : Hid (EV [c0, c1, c2, c3, c4, c5] ∧ prT ((ka, [a0, a1, a2, a3, a4, a5]), (kb, [b0, b1, b2, b3, b4, b5])) = (D, [c0, c1, c2, c3, c4, c5])) := Lib.hid ⟨HCV.out, HPR.out⟩
          clear hB4 hB4' hb3e hs4 y0 y1
          by_cases hx : D = U
          · rw [if_pos hx] at hms
            have hmis : missM ((pairsT (l.take k) m ++ (m.take jj).map fun t => ((ka, [a0, a1, a2, a3, a4, a5]), t)) ++ [((ka, [a0, a1, a2, a3, a4, a5]), (kb, [b0, b1, b2, b3, b4, b5]))]) = missM (pairsT (l.take k) m ++ (m.take jj).map fun t => ((ka, [a0, a1, a2, a3, a4, a5]), t)) := by rw [hms]; simp
            have HMIS := Lib.hid hmis
            subst hx
            clear hmis hms hmb he4 hMu hJn
            go_wp2_with (fail)
            have hs13 := HM4.out
            obtain ⟨c, st, w6, w7, l1, hcb, l2, l3, l4, g6, g7, hN⟩ := hs13.drew.step (p := ((ka, [a0, a1, a2, a3, a4, a5]), (kb, [b0, b1, b2, b3, b4, b5]))) (e := [c0, c1, c2, c3, c4, c5]) (d := D) HCE.out.1 HCE.out.2 HQL.out HQB.out HDB.out
            rw [show valE [c0, c1, c2, c3, c4, c5] = .agg #[.int .u8 c0, .int .u8 c1, .int .u8 c2, .int .u8 c3, .int .u8 c4, .int .u8 c5] from rfl] at l1 l2 l3
            have Wc : IntKind.i64.wrap (c + D) = c + D := wrap_i64 _ (by have := HDB.out; omega) (by have := HDB.out; omega)
            have e0 := (HE4.out).cell (k := 0) rfl
            have e1 := (HE4.out).cell (k := 1) rfl
            have e2 := (HE4.out).cell (k := 2) rfl
            have e3 := (HE4.out).cell (k := 3) rfl
            have e4 := (HE4.out).cell (k := 4) rfl
            have e5 := (HE4.out).cell (k := 5) rfl
            have hS7 : w7.heap[wo.heap.size]? = some (.cells #[.int .i64 ka, .int .u8 a0, .int .u8 a1, .int .u8 a2, .int .u8 a3, .int .u8 a4, .int .u8 a5] 39 (0, 0)) := heap_grown g7 (by have := HR.out.siz; omega) (HS4.out)
            have HN : Hid (MuI w _ _ w7) := Lib.hid hN
            have HS7 := Lib.hid hS7
            clear hs13 hN hS7 g6 g7 hcb
            go_region
            all_goals
              go_wp2_with (fail)
              go_roundw
              case rel => exact ⟨jj + 1, by go_num, by omega, Lib.hid ⟨by rw [row_snoc HY.out, ← List.append_assoc, HMIS.out]; exact HN.out, HS7.out⟩⟩
              case measure => simp [intOf]; omega
          · rw [if_neg hx] at hms
            have hne : (D != U) = true := by simpa using hx
            have hrb := rnd_bd [c0, c1, c2, c3, c4, c5]
            have hrk := Lib.hid (fun W => rnd_ok [c0, c1, c2, c3, c4, c5] W HCV.out)
            rw [show valE [c0, c1, c2, c3, c4, c5] = .agg #[.int .u8 c0, .int .u8 c1, .int .u8 c2, .int .u8 c3, .int .u8 c4, .int .u8 c5] from rfl] at hrk
            generalize rndE [c0, c1, c2, c3, c4, c5] = R at *
            obtain ⟨r, q⟩ := R
            obtain ⟨⟨p1, p2⟩, hpp⟩ : ∃ R, missM (pairsT (l.take k) m ++ (m.take jj).map fun t => ((ka, [a0, a1, a2, a3, a4, a5]), t)) = R := ⟨_, rfl⟩
            rw [hpp] at hms hmb HM4
            dsimp only at hms hmb hrb hrk
            have hql := HQL.out
            have HPL := Lib.hid (fun w => plus_ok p1 p2 r q w (by omega) (by omega) (by omega) (by omega))
            have HMIS := Lib.hid hms
            have m0 := fun g : Grown w4 => (HM4.out.mis.grow g.h).c0
            have m1 := fun g : Grown w4 => (HM4.out.mis.grow g.h).c1
            have g0 := fun g : Grown w4 => (HE4.out.grow g.h).cell (k := 0) rfl
            have g1 := fun g : Grown w4 => (HE4.out.grow g.h).cell (k := 1) rfl
            have g2 := fun g : Grown w4 => (HE4.out.grow g.h).cell (k := 2) rfl
            have g3 := fun g : Grown w4 => (HE4.out.grow g.h).cell (k := 3) rfl
            have g4 := fun g : Grown w4 => (HE4.out.grow g.h).cell (k := 4) rfl
            have g5 := fun g : Grown w4 => (HE4.out.grow g.h).cell (k := 5) rfl
            clear hms hmb he4 hMu hJn hrb hql hpp hx
            go_wp2_with (fail)
            refine region_pred_l (lk [(48, fun u _ => u = .agg #[.int .i64 p1, .int .i64 p2]), (49, fun u _ => u = .agg #[.int .u8 c0, .int .u8 c1, .int .u8 c2, .int .u8 c3, .int .u8 c4, .int .u8 c5]), (50, fun u _ => u = .agg #[.int .i64 r, .int .i64 q]), (51, fun u _ => u = .agg #[.int .i64 (p1 + r), .int .i64 (p2 + q)])]) 4 _ rfl (by kernel_rfl) (by kernel_rfl) (by kernel_rfl) (lk_steady _ ⟨steady_eq _, steady_eq _, steady_eq _, steady_eq _, trivial⟩) ?_ ?_
            · refine ⟨?_, ?_, ?_, ?_, ?_, trivial⟩
              · intro _
                refine ob_plain [7] rfl rfl fun aa g h => ?_
                have x0 := seen_out (v := .pointer (some ⟨w.heap.size + 2, 0, none⟩)) rfl rfl h.1
                have e0 := getD_of x0
                exact tupon_value (v := .agg #[.int .i64 p1, .int .i64 p2]) (by simp [go_sem, e0, x0, m0 g, m1 g]) (Below.refl _ _) rfl
              · intro _
                refine ob_plain [12] rfl rfl fun aa g h => ?_
                have x0 := seen_out (v := .pointer (some ⟨w3.heap.size, 0, none⟩)) rfl rfl h.1
                have e0 := getD_of x0
                exact tupon_value (v := .agg #[.int .u8 c0, .int .u8 c1, .int .u8 c2, .int .u8 c3, .int .u8 c4, .int .u8 c5]) (by simp [go_sem, e0, x0, g0 g, g1 g, g2 g, g3 g, g4 g, g5 g]) (Below.refl _ _) rfl
              · intro _
                refine ob_plain [49] rfl rfl fun aa g h => ?_
                obtain ⟨_, x0, rfl⟩ := seen_in rfl h.1
                have e0 := getD_of x0
                refine tupon_enter (f := 63) (args := #[.agg #[.int .u8 c0, .int .u8 c1, .int .u8 c2, .int .u8 c3, .int .u8 c4, .int .u8 c5]]) (by simp [go_sem, e0, x0]) rfl ?_
                exact (hrk.out g.w).mono fun e w' ⟨he, hB⟩ => ⟨_, he, hB, rfl⟩
              · intro _
                refine ob_plain [48, 50] rfl rfl fun aa g h => ?_
                obtain ⟨_, x0, rfl⟩ := seen_in rfl h.1
                have e0 := getD_of x0
                obtain ⟨_, x1, rfl⟩ := seen_in rfl h.2.1
                have e1 := getD_of x1
                refine tupon_enter (f := 44) (args := #[.agg #[.int .i64 p1, .int .i64 p2], .agg #[.int .i64 r, .int .i64 q]]) (by simp [go_sem, e0, x0, e1, x1]) rfl ?_
                exact (HPL.out g.w).mono fun e w' ⟨he, hB⟩ => ⟨_, he, hB, rfl⟩
              · exact fun h => absurd rfl h
            rintro w5 hB5 _ rfl _ rfl _ rfl _ rfl
            simp only [Act.put, List.setIfInBounds_toArray, List.set_cons_succ, List.set_cons_zero]
            have hM5 := HM4.out.grow hB5
            have hsz5 := HM4.out.siz
            have hwl := (Array.getElem?_eq_some_iff.1 HS4.out).1
            have c0' := hM5.mis.c0
            have c1' := hM5.mis.c1
            have z0 := hM5.mis.frozen 0
            have z1 := hM5.mis.frozen 1
            refine ⟨_, by simp [go_sem, c0', c1', z0, z1]; rfl, ?_⟩
            have hrz := HR.out.siz
            have HM6 := Lib.hid (hM5.set (p1 + r) (p2 + q))
            have HE6 : Hid (ByB ((w5.setCell ⟨w.heap.size + 2, 0, none⟩ (.int .i64 (p1 + r))).setCell ⟨w.heap.size + 2, 1, none⟩ (.int .i64 (p2 + q))) w3.heap.size [c0, c1, c2, c3, c4, c5]) := Lib.hid (((HE4.out.grow hB5).other (by omega)).other (by omega))
            have HS6 : Hid (((w5.setCell ⟨w.heap.size + 2, 0, none⟩ (.int .i64 (p1 + r))).setCell ⟨w.heap.size + 2, 1, none⟩ (.int .i64 (p2 + q))).heap[wo.heap.size]? = some (.cells #[.int .i64 ka, .int .u8 a0, .int .u8 a1, .int .u8 a2, .int .u8 a3, .int .u8 a4, .int .u8 a5] 39 (0, 0))) := Lib.hid ((heapT_set (a := ⟨w.heap.size + 2, 1, none⟩) (by dsimp only; omega)).trans ((heapT_set (a := ⟨w.heap.size + 2, 0, none⟩) (by dsimp only; omega)).trans ((hB5.block _ hwl).trans HS4.out)))
            clear c0' c1' z0 z1 m0 m1 g0 g1 g2 g3 g4 g5 hM5 hB5 hwl hsz5 hrz
            generalize (w5.setCell ⟨w.heap.size + 2, 0, none⟩ (.int .i64 (p1 + r))).setCell ⟨w.heap.size + 2, 1, none⟩ (.int .i64 (p2 + q)) = W13 at *
            go_wp2_with (fail)
            have hs13 := HM6.out
            obtain ⟨c, st, w6, w7, l1, hcb, l2, l3, l4, g6, g7, hN⟩ := hs13.drew.step (p := ((ka, [a0, a1, a2, a3, a4, a5]), (kb, [b0, b1, b2, b3, b4, b5]))) (e := [c0, c1, c2, c3, c4, c5]) (d := D) HCE.out.1 HCE.out.2 HQL.out HQB.out HDB.out
            rw [show valE [c0, c1, c2, c3, c4, c5] = .agg #[.int .u8 c0, .int .u8 c1, .int .u8 c2, .int .u8 c3, .int .u8 c4, .int .u8 c5] from rfl] at l1 l2 l3
            have Wc : IntKind.i64.wrap (c + D) = c + D := wrap_i64 _ (by have := HDB.out; omega) (by have := HDB.out; omega)
            have e0 := (HE6.out).cell (k := 0) rfl
            have e1 := (HE6.out).cell (k := 1) rfl
            have e2 := (HE6.out).cell (k := 2) rfl
            have e3 := (HE6.out).cell (k := 3) rfl
            have e4 := (HE6.out).cell (k := 4) rfl
            have e5 := (HE6.out).cell (k := 5) rfl
            have hS7 : w7.heap[wo.heap.size]? = some (.cells #[.int .i64 ka, .int .u8 a0, .int .u8 a1, .int .u8 a2, .int .u8 a3, .int .u8 a4, .int .u8 a5] 39 (0, 0)) := heap_grown g7 (by have := HR.out.siz; omega) (HS6.out)
            have HN : Hid (MuI w _ _ w7) := Lib.hid hN
            have HS7 := Lib.hid hS7
            clear hs13 hN hS7 g6 g7 hcb
            go_region
            all_goals
              go_wp2_with (fail)
              go_roundw
              case rel => exact ⟨jj + 1, by go_num, by omega, Lib.hid ⟨by rw [row_snoc HY.out, ← List.append_assoc, HMIS.out]; exact HN.out, HS7.out⟩⟩
              case measure => simp [intOf]; omega
        · obtain rfl : jj = m.length := by omega
          have hJl := HJ.out.1
          rw [List.take_of_length_le (Nat.le_refl _), ← pairs_snoc HX.out] at hJl
          have HJL := Lib.hid hJl
          clear hJl
          go_wp2_with (fail)
          go_roundw
          case rel => exact ⟨k + 1, by go_num, by omega, HJL⟩
          case measure => simp [intOf]; omega
    · obtain rfl : k = l.length := by omega
      have hRR := HR.out
      rw [List.take_of_length_le (Nat.le_refl _)] at hRR
      have HE := Lib.hid hRR
      have hql := pairs_len l m
      have hQS : Hid (∀ t ∈ (pairsT l m).map prT, EV t.2) := Lib.hid fun t ht => by
        obtain ⟨q, hq, rfl⟩ := List.mem_map.1 ht
        have := pairs_mem hq
        exact add_ev (HL.out _ this.1).1.1 (HM.out _ this.2).1.1
      obtain ⟨Q, hQ⟩ : ∃ Q, pairsT l m = Q := ⟨_, rfl⟩
      have hmu : mulP l m = (collT (Q.map prT)).filter fun t => t.1 != 0 := by unfold mulP; rw [hQ]
      rw [HMR.out] at hmu
      rw [hQ] at HE hQS hql
      have HQN : Hid (Q.length ≤ 10000) := Lib.hid (by rw [hql]; exact HSM.out)
      have hwo := HE.out.siz
      have hn := HNN.out
      rw [hQ] at hn
      rw [hn] at HE
      have HMU := Lib.hid hmu
      obtain ⟨D, hD1, hD2⟩ := HE.out.map
      have HD2 := Lib.hid hD2
      have HK1 := Lib.hid (callsIn_wide.1 (keys_in 3 (some (w.heap.size + 1)) wo))
      have hbk : Below wo.heap.size wo (wo.alloc (.cells #[.map (some (w.heap.size + 1))] 82)) := (Below.refl _ _).alloc (Nat.le_refl _) _
      have hcell : (wo.alloc (.cells #[.map (some (w.heap.size + 1))] 82)).cell? ⟨wo.heap.size, 0, none⟩ = some (.map (some (w.heap.size + 1))) := by simp [go_sem]
      have hzD := size_own hD1
      have HZD := Lib.hid hzD
      have HSO := Lib.hid (sorted_ok 79 #[.pointer (some ⟨wo.heap.size, 0, none⟩)] (enters_of Try.func79 (by kernel_rfl) rfl) (KeysD D) (fun xs h => by have := h.2; have := HQN.out; omega) (Maps.size D) (by have := HQN.out; omega) (wo.alloc (.cells #[.map (some (w.heap.size + 1))] 82)) (keys_stops 3 (by omega) wo.heap.size (w.heap.size + 1) Q.length D _ (by simp) hcell (hD1.alloc _)))
      clear hRR hql hmu hQ hn hD1 hD2 hcell hzD HR HL HM HV HU HSM
      go_wp2_with (fail)
      refine (HK1.out).mono ?_
      rintro e1 w2 ⟨rfl, rfl⟩
      go_wp2_with (fail)
      refine HSO.out.mono ?_
      rintro e2 w3 ⟨vk, xs, rfl, hKD, hKx, hB3⟩
      have hB3' := below_then hbk hB3
      have HE3 := Lib.hid (HE.out.grow hB3')
      have hkl : (sortE xs).length ≤ 10000 := by rw [sortE_len]; have := hKD.2; have := HZD.out; have := HQN.out; omega
      obtain ⟨ks, hks⟩ : ∃ ks, sortE xs = ks := ⟨_, rfl⟩
      have hall := keysD_all hKD HD2.out
      have hcol := keys_coll hQS.out (ks := ks.map Subtype.val) ⟨by rw [← hks]; exact ((sortE_perm xs).map _).nodup_iff.2 hall.1, fun e he => by obtain ⟨x, _, rfl⟩ := List.mem_map.1 he; exact x.2, fun e he => by rw [← hall.2.2 e he, ← hks]; exact ((sortE_perm xs).map _).mem_iff⟩ (by rw [← hks]; exact sortE_rise hKD.1.1)
      have hpk : prodK (Q.map prT) ks = (collT (Q.map prT)).filter fun t => t.1 != 0 := by
        unfold prodK
        rw [← hcol, List.map_map]
        rfl
      have hmr : MR = prodK (Q.map prT) ks := by rw [HMU.out, hpk]
      have HMRK := Lib.hid hmr
      rw [hks] at hKx hkl
      have HKX := Lib.hid hKx
      obtain ⟨_, pk, ck, rfl, _⟩ := hKx
      have HBE := Lib.hid (HE.out.bel.trans (hB3'.mono HE.out.bel.size))
      clear hmr hks hall hcol hpk hKD hB3 hB3' hbk HSO HK1 HE
      have hsz3 := HE3.out.siz
      go_wp2_with (fail)
      go_loopw [15, 65] (fun u i w4 => ∃ kk : Nat, i = .int .i64 kk ∧ kk ≤ ks.length ∧ Hid (w4.ownsRow w3.heap.size 39 7 u (prodK (Q.map prT) (ks.take kk)).length (ct (prodK (Q.map prT) (ks.take kk))) ∧ Below w3.heap.size w3 w4)) (fun _ i _ => ks.length - (intOf i).toNat)
      case atStart => exact ⟨0, rfl, Nat.zero_le _, Lib.hid ⟨by simpa [prodK, ct] using World.ownsRow_nil w3 _ _ _, Below.refl _ _⟩⟩
      case round =>
        obtain ⟨kk, rfl, hkk, HP⟩ := hrel
        by_cases hkl2 : kk < ks.length
        · have i3 : (kk : Int) < ks.length := by omega
          obtain ⟨x, hx⟩ : ∃ x, ks[kk]? = some x := ⟨_, List.getElem?_eq_getElem hkl2⟩
          obtain ⟨c0, c1, c2, c3, c4, c5, hxe⟩ := six_of x.2
          obtain ⟨b, hp, hb, rd⟩ := kx_rd HKX.out hx hxe
          subst hp
          obtain ⟨f1, f2, f3, f4, f5, f6⟩ := rd ⟨wr, HP.out.2⟩
          dsimp only at f1 f2 f3 f4 f5 f6
          obtain ⟨D', hD1, hD2⟩ := (HE3.out.grow HP.out.2).map
          have hEV : EV [c0, c1, c2, c3, c4, c5] := by rw [← hxe]; exact x.2
          obtain ⟨c, hlk, hat, hcw⟩ := (hD1.alloc (.cells #[.int .u8 c0, .int .u8 c1, .int .u8 c2, .int .u8 c3, .int .u8 c4, .int .u8 c5] 37)).lookup_int law6 Try.underlying82 Try.underlying2 (by kernel_rfl) (key6 hEV)
          rw [show valE [c0, c1, c2, c3, c4, c5] = .agg #[.int .u8 c0, .int .u8 c1, .int .u8 c2, .int .u8 c3, .int .u8 c4, .int .u8 c5] from rfl] at hlk
          have hcs : c = sumK (Q.map prT) x.1 := by
            rw [hD2.at0 _ hEV, ← hxe] at hat
            simpa using hat.symm
          have HX := Lib.hid hx
          have HCS := Lib.hid hcs
          have HXE := Lib.hid hxe
          have hpl := Nat.le_trans (prodK_len (Q.map prT) (ks.take kk)) (by rw [List.length_take]; exact Nat.min_le_left _ _)
          clear rd hx hxe hcs hat hD1 hD2 hcw hEV
          by_cases hc0 : c = 0
          · have h1 := prodK_out (S := Q.map prT) HX.out (by rw [← HCS.out]; exact hc0)
            have HN : Hid ((wr.alloc (.cells #[.int .u8 c0, .int .u8 c1, .int .u8 c2, .int .u8 c3, .int .u8 c4, .int .u8 c5] 37)).ownsRow w3.heap.size 39 7 u15 (prodK (Q.map prT) (ks.take (kk + 1))).length (ct (prodK (Q.map prT) (ks.take (kk + 1)))) ∧ Below w3.heap.size w3 (wr.alloc (.cells #[.int .u8 c0, .int .u8 c1, .int .u8 c2, .int .u8 c3, .int .u8 c4, .int .u8 c5] 37))) := Lib.hid (by rw [h1]; exact ⟨HP.out.1.alloc _, HP.out.2.alloc HP.out.2.size _⟩)
            subst hc0
            clear h1
            go_wp2_with (fail)
            go_roundw
            case rel => exact ⟨kk + 1, by go_num, by omega, HN⟩
            case measure => simp [intOf]; omega
          · have h1 := prodK_in (S := Q.map prT) HX.out (by rw [← HCS.out]; exact hc0)
            rw [← HCS.out, HXE.out] at h1
            have H1 := Lib.hid h1
            have hne : (c != 0) = true := by simpa using hc0
            have hrow := HP.out.1.alloc (.cells #[.int .u8 c0, .int .u8 c1, .int .u8 c2, .int .u8 c3, .int .u8 c4, .int .u8 c5] 37)
            have hbel := HP.out.2.size
            clear h1
            go_wp2_with (at_builtin; refine wpList_append_own _ rfl (.tmp 74) (.tmp 78) 22 rfl w3.heap.size 39 i0 (.agg #[.int .i64 0, .int .u8 0, .int .u8 0, .int .u8 0, .int .u8 0, .int .u8 0, .int .u8 0]) 7 16 Try.underlying22 hi hz0 hz1 hz2 rfl (by decide) _ (prodK (Q.map prT) (ks.take kk)).length _ rfl (hrow.alloc _) ⟨wr.heap.size + 1, 0, none⟩ 1 1 [.int .i64 c, .int .u8 c0, .int .u8 c1, .int .u8 c2, .int .u8 c3, .int .u8 c4, .int .u8 c5] rfl rfl ?_ (one_t _ _ _ _ _ _ _) (by unfold maxLen; omega) (by omega) (by simp only [World.size_alloc]; omega) ?_)
            · have := new_t (wr.alloc (.cells #[.int .u8 c0, .int .u8 c1, .int .u8 c2, .int .u8 c3, .int .u8 c4, .int .u8 c5] 37)) c c0 c1 c2 c3 c4 c5
              simpa using this
            intro v' w6 hown' hgrow _
            have hB6 : Below w3.heap.size wr w6 := Below.grown (((Below.refl _ _).alloc hbel _).alloc (by simp only [World.size_alloc]; omega) _) hgrow (by simp only [World.size_alloc]; omega) (fun k hk => (hrow.lt k hk).1)
            have HN : Hid (w6.ownsRow w3.heap.size 39 7 v' (prodK (Q.map prT) (ks.take (kk + 1))).length (ct (prodK (Q.map prT) (ks.take (kk + 1)))) ∧ Below w3.heap.size w3 w6) := Lib.hid (by rw [H1.out, List.length_append, ct_snoc]; exact ⟨hown', HP.out.2.trans hB6⟩)
            clear hown' hgrow hB6 hrow
            go_wp2_with (fail)
            go_roundw
            case rel => exact ⟨kk + 1, by go_num, by omega, HN⟩
            case measure => simp [intOf]; omega
        · obtain rfl : kk = ks.length := by omega
          have hP := HP.out
          rw [List.take_of_length_le (Nat.le_refl _), ← HMRK.out] at hP
          have hM4 := HE3.out.grow hP.2
          have h6 : ∀ t ∈ MR, t.2.length = 6 := by rw [HMRK.out]; exact prodK_ev _ _
          have hml : MR.length ≤ ks.length := by rw [HMRK.out]; exact prodK_len _ _
          have htx := Tx.own hP.1 (by unfold maxLen; omega) h6
          have hcap := capok_own hP.1
          have hnb : NewB w.heap.size u15 := ⟨hcap, fun b hb => by have := (hP.1.lt b hb).1; omega⟩
          have HBW := Lib.hid (HBE.out.trans (hP.2.mono HBE.out.size))
          have HNB := Lib.hid hnb
          have m0 := hM4.mis.c0
          have m1 := hM4.mis.c1
          have r0 := hM4.res.c0
          have r1 := hM4.res.c1
          have z0 := hM4.res.frozen 0
          have z1 := hM4.res.frozen 1
          have hres := hM4.res
          dsimp only at m0 m1 r0 r1
          have HT2 := Lib.hid (htx.off (B := w3.heap.size) (c := w.heap.size) ⟨hcap, fun b hb => (hP.1.lt b hb).1⟩ (by omega) hM4.res.lt (.int .i64 n1) (.int .i64 n2))
          obtain ⟨pu, cu, hu⟩ := htx.cut
          subst hu
          clear hP hM4 htx hcap hnb h6 HP
          go_wp2_with (fail)
          go_region
          go_wp2_with (fail)
          have hb1 : w.heap.size < wr.heap.size := hres.lt
          refine bodyPost_ret (v := .tuple #[.slice pu MR.length cu, .agg #[.int .i64 n1, .int .i64 n2]]) (by simp [results, Try.results42, go_sem, r0, r1]) rfl ⟨_, rfl, HT2.out.grow ((Below.refl _ _).drew), HNB.out, ?_⟩
          exact ((HBW.out.setCell (p := ⟨w.heap.size, 0, none⟩) (Nat.le_refl _) _).setCell (p := ⟨w.heap.size, 1, none⟩) (Nat.le_refl _) _).drew
end Go.Proofs.Ytcamjoddaeefdaa
