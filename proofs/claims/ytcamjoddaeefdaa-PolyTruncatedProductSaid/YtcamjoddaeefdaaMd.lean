/-
  The reference's Made: a valid polynomial out of whatever terms.
-/
import Derived.Test.YtcamjoddaeefdaaVd
namespace Go.Proofs.Ytcamjoddaeefdaa
open Go.ChangeShapes Go.WideShapes Go.ChangeAt Go.RowKit
set_option linter.unusedVariables false
set_option linter.unusedSimpArgs false
set_option maxRecDepth 100000

attribute [local irreducible] Calls
/-- A term in a block of its own. -/
def ByT (W : World) (b : Nat) (k : Int) (e : List Int) : Prop := W.heap[b]? = some (.cells (.int .i64 k :: e.map (.int .u8 ·)).toArray 39 (0, 0))
theorem ByT.lt {W : World} {b : Nat} {k : Int} {e : List Int} (h : ByT W b k e) : b < W.heap.size := (Array.getElem?_eq_some_iff.1 h).1
theorem ByT.set {W : World} {b : Nat} {k : Int} {e : List Int} (h : ByT W b k e) (j : Nat) (x : Int) : ByT (W.setCell ⟨b, j + 1, none⟩ (.int .u8 x)) b k (e.set j x) := by
  have h1 := cellsT_set (o := j + 1) (u := .int .u8 x) h
  refine Eq.trans h1 ?_
  simp [List.map_set]
theorem ByT.frozen {W : World} {b : Nat} {k : Int} {e : List Int} (h : ByT W b k e) (o : Nat) : W.frozen? ⟨b, o, none⟩ = false := by simp [World.frozen?, show W.heap[b]? = _ from h]
/-- What Made's polynomials keep. -/
def Good5 (most : Int) (m : List Tm) : Prop := VP m ∧ (m.length : Int) ≤ most ∧ ∀ t ∈ m, TV t
theorem good_nil {most : Int} (h : 0 ≤ most) : Good5 most [] := ⟨⟨fun i hi => absurd hi (Nat.not_lt_zero _), Nat.zero_le _, rfl⟩, h, by simp⟩
theorem vp_num {m : List Tm} (h : VP m) : ∀ t ∈ m, Num t.1 := fun t ht => by
  have := List.any_eq_false.1 h.2.2 t ht
  simpa [noNum] using this
theorem good_small {most : Int} {m : List Tm} (h : Good5 most m) : ∀ t ∈ m, TV t ∧ Small62 t := fun t ht => ⟨h.2.2 t ht, by
  have := vp_num h.1 t ht
  unfold Num at this
  unfold Small62
  omega⟩
theorem ins_tv {x : Tm} (hx : TV x ∧ Small62 x) : ∀ {l : List Tm}, (∀ t ∈ l, TV t ∧ Small62 t) → ∀ t ∈ insT x l, TV t
  | [], _, t, ht => by simp [insT] at ht; subst ht; exact hx.1
  | q :: r, h, t, ht => by
    unfold insT at ht
    split at ht
    · rcases List.mem_cons.1 ht with rfl | ht
      · exact (h _ (by simp)).1
      · exact ins_tv hx (fun t ht => h t (by simp [ht])) t ht
    · split at ht
      · rcases List.mem_cons.1 ht with rfl | ht
        · have h1 := h q (by simp)
          have h2 := h1.2
          have h3 := hx.2
          unfold Small62 at h2 h3
          exact ⟨hx.1.1, by dsimp only; omega, by dsimp only; omega⟩
        · exact (h t (by simp [ht])).1
      · rcases List.mem_cons.1 ht with rfl | ht
        · exact hx.1
        · exact (h t ht).1
theorem good_ins {most : Int} {m : List Tm} {x : Tm} (h : Good5 most m) (hl : (m.length : Int) < most) (hx : TV x ∧ Small62 x) (hv : VP (insT x m)) : Good5 most (insT x m) :=
  ⟨hv, by have := ins_len x m; omega, ins_tv hx (good_small h)⟩
theorem rem_num {a n : Int} (h1 : 1 ≤ n) (h2 : n ≤ 2147483648) : Num (a.tmod n) := by
  have h3 := Int.tmod_lt_of_pos a (b := n) (by omega)
  have h4 : -n < a.tmod n := by
    have := Int.tmod_lt_of_pos (-a) (b := n) (by omega)
    rw [Int.neg_tmod] at this
    omega
  unfold Num
  omega
set_option maxHeartbeats 40000000 in
theorem made5 (v : Value) (l : List Tm) (most size : Int) (w : World) (hv : Tx w v l) (hl : ∀ t ∈ l, TV t) (hm : 0 ≤ most ∧ most ≤ 100) (hz : 1 ≤ size ∧ size ≤ 2147483648) :
    Calls Try.prog 31 #[v, .int .i64 most, .int .i64 size] w fun e w' => ∃ r m, e = .returned r ∧ Tx w' r m ∧ SomeS r ∧ Good5 most m ∧ Below w.heap.size w w' := by
  have h1 := hv.1
  unfold maxLen at h1
  obtain ⟨p, c, rfl⟩ := hv.cut
  have HV := Lib.hid hv
  have HL := Lib.hid hl
  have hm0 := hm.1
  have hm1 := hm.2
  have hz0 := hz.1
  have hz1 := hz.2
  have hz2 : ¬ size = 0 := by omega
  have hz3 : ¬ size = -1 := by omega
  clear hv hl hm hz
  go_enter Try.func31, Try.ntmps31
  go_wp2_with (fail)
  go_loopw [7, 8] (fun u i wr => ∃ (m : List Tm) (k : Nat), i = .int .i64 k ∧ k ≤ l.length ∧ Hid (Good5 most m) ∧ Hid (Tx wr u m) ∧ SomeS u ∧ Below w.heap.size w wr) (fun _ i _ => l.length - (intOf i).toNat)
  case atStart => exact ⟨[], 0, rfl, Nat.zero_le _, Lib.hid (good_nil hm0), Lib.hid ⟨Nat.zero_le _, _, _, rfl, fun i x hx => by simp at hx⟩, ⟨_, _, _, _, rfl, Nat.le_refl _⟩, (Below.refl _ _).alloc (Nat.le_refl _) _⟩
  case round =>
    obtain ⟨m, k, rfl, hk, HG, HT, ⟨b, o, n, c', rfl, hcap⟩, hB⟩ := hrel
    obtain rfl : n = m.length := by
      obtain ⟨_, _, _, e, _⟩ := HT.out
      simp only [Value.slice.injEq] at e
      exact e.2.1
    have hml := HG.out.2.1
    obtain ⟨wo, rfl⟩ : ∃ wo, wo = wr := ⟨_, rfl⟩
    by_cases hlt : k < l.length
    · have i1 : (k : Int) < l.length := by omega
      by_cases hlm : (m.length : Int) < most
      · obtain ⟨x, hx⟩ : ∃ x, l[k]? = some x := ⟨_, List.getElem?_eq_getElem hlt⟩
        have tx := HL.out x (List.mem_of_getElem? hx)
        obtain ⟨ka, a0, a1, a2, a3, a4, a5, rfl⟩ := six_at tx
        obtain ⟨b1, o1, hp, hb, rda⟩ := HV.out.rd7 hx
        subst hp
        have fa0 := (rda ⟨wo, hB⟩).1
        dsimp only at fa0
        have HD := Lib.hid rda
        have q0 := tx.1.2 a0 (by simp)
        have q1 := tx.1.2 a1 (by simp)
        have q2 := tx.1.2 a2 (by simp)
        have q3 := tx.1.2 a3 (by simp)
        have q4 := tx.1.2 a4 (by simp)
        have q5 := tx.1.2 a5 (by simp)
        have HN := Lib.hid (rem_num (a := ka) hz0 hz1)
        clear rda hx tx
        have hsz := hB.size
        go_wp2_with (fail)
        clear fa0
        obtain ⟨C, hC⟩ : ∃ C, ka.tmod size = C := ⟨_, rfl⟩
        rw [hC] at HN ⊢
        clear hC
        obtain ⟨W1, hW1⟩ : ∃ W, wo.alloc (.cells #[.int .i64 C, .int .u8 0, .int .u8 0, .int .u8 0, .int .u8 0, .int .u8 0, .int .u8 0] 39) = W := ⟨_, rfl⟩
        have hb1 : Below wo.heap.size wo W1 := by rw [← hW1]; exact (Below.refl _ _).alloc (Nat.le_refl _) _
        have X1 : ByT W1 wo.heap.size C [0, 0, 0, 0, 0, 0] := by rw [← hW1]; exact World.alloc_heap_new wo _
        have HX1 := Lib.hid X1
        rw [hW1]
        clear hW1 X1
        go_loopw [10, 11] (fun u i wr => ∃ (q s : Nat) (e : List Int), u = .int .i64 s ∧ i = .int .i64 q ∧ q ≤ 6 ∧ s ≤ 6 ∧ Hid (EV e ∧ degE e + s = 6 ∧ ∀ j, q ≤ j → j < 6 → e[j]? = some 0) ∧ Hid (ByT wr wo.heap.size C e) ∧ Below wo.heap.size wo wr) (fun _ i _ => 6 - (intOf i).toNat)
        case atStart => exact ⟨0, 6, [0, 0, 0, 0, 0, 0], rfl, rfl, by decide, by decide, Lib.hid ⟨⟨rfl, by decide⟩, by decide, fun j _ hj => by rcases (show j = 0 ∨ j = 1 ∨ j = 2 ∨ j = 3 ∨ j = 4 ∨ j = 5 by omega) with rfl | rfl | rfl | rfl | rfl | rfl <;> rfl⟩, HX1, hb1⟩
        case round =>
          obtain ⟨q, s, e, rfl, rfl, hq, hs, HE, HX, hBi⟩ := hrel
          by_cases hq6 : q < 6
          · have T2 : ∀ a : Int, 0 ≤ a → (a % 7).tmod ((s : Int) + 1) = a % 7 % ((s : Int) + 1) := fun a ha => Int.tmod_eq_emod_of_nonneg (by omega)
            have T3 : ∀ a : Int, 0 ≤ a % 7 % ((s : Int) + 1) ∧ a % 7 % ((s : Int) + 1) ≤ s := fun a => ⟨Int.emod_nonneg _ (by omega), by have := Int.emod_lt_of_pos (a % 7) (b := (s : Int) + 1) (by omega); omega⟩
            have Wu : IntKind.u8.wrap ((s : Int) + 1) = (s : Int) + 1 := by rw [wrap_u8 _ (by omega)]; omega
            have nz : ¬ ((s : Int) + 1 = 0) := by omega
            rcases (show q = 0 ∨ q = 1 ∨ q = 2 ∨ q = 3 ∨ q = 4 ∨ q = 5 by omega) with rfl | rfl | rfl | rfl | rfl | rfl
            · obtain ⟨y0, y1, y2, y3, y4, y5, rfl⟩ := six_of HE.out.1
              obtain rfl : y0 = 0 := by have := HE.out.2.2 0 (by decide) (by decide); simpa using this
              obtain rfl : y1 = 0 := by have := HE.out.2.2 1 (by decide) (by decide); simpa using this
              obtain rfl : y2 = 0 := by have := HE.out.2.2 2 (by decide) (by decide); simpa using this
              obtain rfl : y3 = 0 := by have := HE.out.2.2 3 (by decide) (by decide); simpa using this
              obtain rfl : y4 = 0 := by have := HE.out.2.2 4 (by decide) (by decide); simpa using this
              obtain rfl : y5 = 0 := by have := HE.out.2.2 5 (by decide) (by decide); simpa using this
              have fa := (HD.out ⟨wr, below_then hB hBi⟩).2.1
              dsimp only at fa
              have xq := heapT_cell HX.out (k := 1) rfl
              have fz := HX.out.frozen 1
              have t1 : a0.tmod 7 = a0 % 7 := Int.tmod_eq_emod_of_nonneg q0.1
              have t2 := T2 a0 q0.1
              obtain ⟨V, hV⟩ : ∃ V, a0 % 7 % ((s : Int) + 1) = V := ⟨_, rfl⟩
              have hv := T3 a0
              rw [hV] at t2 hv
              have hv0 := hv.1
              have hv1 := hv.2
              have hE := HE.out
              have hset := HX.out.set 0 V
              have hBs : Below wo.heap.size wo ((wr.setCell ⟨wo.heap.size, 1, none⟩ (.int .u8 V))) := hBi.setCell (p := ⟨wo.heap.size, 1, none⟩) (Nat.le_refl _) _
              have HS := Lib.hid hset
              have HBS := Lib.hid hBs
              have HE1 : Hid (EV [V, 0, 0, 0, 0, 0] ∧ degE [V, 0, 0, 0, 0, 0] + ((s - V.toNat : Nat) : Int) = 6 ∧ ∀ j, 1 ≤ j → j < 6 → ([V, 0, 0, 0, 0, 0] : List Int)[j]? = some 0) := Lib.hid ⟨⟨rfl, by
                intro x hx
                have h0 := hE.1.2
                simp only [List.mem_cons, List.not_mem_nil, or_false] at hx h0
                rcases hx with rfl | rfl | rfl | rfl | rfl | rfl
                · exact ⟨hv0, by omega⟩
                · decide
                · decide
                · decide
                · decide
                · decide⟩, by
                have h0 := hE.2.1
                simp only [degE, List.sum_cons, List.sum_nil] at h0 ⊢
                omega, by
                intro j h1 h2
                rcases (show j = 1 ∨ j = 2 ∨ j = 3 ∨ j = 4 ∨ j = 5 by omega) with rfl | rfl | rfl | rfl | rfl <;> rfl⟩
              clear hv hV HE hE hset hBs T2 T3
              go_wp2_with (fail)
              exact ⟨⟨1, s - V.toNat, _, by rw [show ((s - V.toNat : Nat) : Int) = (s : Int) - V by omega], rfl, by decide, by omega, HE1, HS, HBS.out⟩, by simp [intOf]⟩
            · obtain ⟨y0, y1, y2, y3, y4, y5, rfl⟩ := six_of HE.out.1
              obtain rfl : y1 = 0 := by have := HE.out.2.2 1 (by decide) (by decide); simpa using this
              obtain rfl : y2 = 0 := by have := HE.out.2.2 2 (by decide) (by decide); simpa using this
              obtain rfl : y3 = 0 := by have := HE.out.2.2 3 (by decide) (by decide); simpa using this
              obtain rfl : y4 = 0 := by have := HE.out.2.2 4 (by decide) (by decide); simpa using this
              obtain rfl : y5 = 0 := by have := HE.out.2.2 5 (by decide) (by decide); simpa using this
              have fa := (HD.out ⟨wr, below_then hB hBi⟩).2.2.1
              dsimp only at fa
              have xq := heapT_cell HX.out (k := 2) rfl
              have fz := HX.out.frozen 2
              have t1 : a1.tmod 7 = a1 % 7 := Int.tmod_eq_emod_of_nonneg q1.1
              have t2 := T2 a1 q1.1
              obtain ⟨V, hV⟩ : ∃ V, a1 % 7 % ((s : Int) + 1) = V := ⟨_, rfl⟩
              have hv := T3 a1
              rw [hV] at t2 hv
              have hv0 := hv.1
              have hv1 := hv.2
              have hE := HE.out
              have hset := HX.out.set 1 V
              have hBs : Below wo.heap.size wo ((wr.setCell ⟨wo.heap.size, 2, none⟩ (.int .u8 V))) := hBi.setCell (p := ⟨wo.heap.size, 2, none⟩) (Nat.le_refl _) _
              have HS := Lib.hid hset
              have HBS := Lib.hid hBs
              have HE1 : Hid (EV [y0, V, 0, 0, 0, 0] ∧ degE [y0, V, 0, 0, 0, 0] + ((s - V.toNat : Nat) : Int) = 6 ∧ ∀ j, 2 ≤ j → j < 6 → ([y0, V, 0, 0, 0, 0] : List Int)[j]? = some 0) := Lib.hid ⟨⟨rfl, by
                intro x hx
                have h0 := hE.1.2
                simp only [List.mem_cons, List.not_mem_nil, or_false] at hx h0
                rcases hx with rfl | rfl | rfl | rfl | rfl | rfl
                · exact h0 _ (by simp)
                · exact ⟨hv0, by omega⟩
                · decide
                · decide
                · decide
                · decide⟩, by
                have h0 := hE.2.1
                simp only [degE, List.sum_cons, List.sum_nil] at h0 ⊢
                omega, by
                intro j h1 h2
                rcases (show j = 2 ∨ j = 3 ∨ j = 4 ∨ j = 5 by omega) with rfl | rfl | rfl | rfl <;> rfl⟩
              clear hv hV HE hE hset hBs T2 T3
              go_wp2_with (fail)
              exact ⟨⟨2, s - V.toNat, _, by rw [show ((s - V.toNat : Nat) : Int) = (s : Int) - V by omega], rfl, by decide, by omega, HE1, HS, HBS.out⟩, by simp [intOf]⟩
            · obtain ⟨y0, y1, y2, y3, y4, y5, rfl⟩ := six_of HE.out.1
              obtain rfl : y2 = 0 := by have := HE.out.2.2 2 (by decide) (by decide); simpa using this
              obtain rfl : y3 = 0 := by have := HE.out.2.2 3 (by decide) (by decide); simpa using this
              obtain rfl : y4 = 0 := by have := HE.out.2.2 4 (by decide) (by decide); simpa using this
              obtain rfl : y5 = 0 := by have := HE.out.2.2 5 (by decide) (by decide); simpa using this
              have fa := (HD.out ⟨wr, below_then hB hBi⟩).2.2.2.1
              dsimp only at fa
              have xq := heapT_cell HX.out (k := 3) rfl
              have fz := HX.out.frozen 3
              have t1 : a2.tmod 7 = a2 % 7 := Int.tmod_eq_emod_of_nonneg q2.1
              have t2 := T2 a2 q2.1
              obtain ⟨V, hV⟩ : ∃ V, a2 % 7 % ((s : Int) + 1) = V := ⟨_, rfl⟩
              have hv := T3 a2
              rw [hV] at t2 hv
              have hv0 := hv.1
              have hv1 := hv.2
              have hE := HE.out
              have hset := HX.out.set 2 V
              have hBs : Below wo.heap.size wo ((wr.setCell ⟨wo.heap.size, 3, none⟩ (.int .u8 V))) := hBi.setCell (p := ⟨wo.heap.size, 3, none⟩) (Nat.le_refl _) _
              have HS := Lib.hid hset
              have HBS := Lib.hid hBs
              have HE1 : Hid (EV [y0, y1, V, 0, 0, 0] ∧ degE [y0, y1, V, 0, 0, 0] + ((s - V.toNat : Nat) : Int) = 6 ∧ ∀ j, 3 ≤ j → j < 6 → ([y0, y1, V, 0, 0, 0] : List Int)[j]? = some 0) := Lib.hid ⟨⟨rfl, by
                intro x hx
                have h0 := hE.1.2
                simp only [List.mem_cons, List.not_mem_nil, or_false] at hx h0
                rcases hx with rfl | rfl | rfl | rfl | rfl | rfl
                · exact h0 _ (by simp)
                · exact h0 _ (by simp)
                · exact ⟨hv0, by omega⟩
                · decide
                · decide
                · decide⟩, by
                have h0 := hE.2.1
                simp only [degE, List.sum_cons, List.sum_nil] at h0 ⊢
                omega, by
                intro j h1 h2
                rcases (show j = 3 ∨ j = 4 ∨ j = 5 by omega) with rfl | rfl | rfl <;> rfl⟩
              clear hv hV HE hE hset hBs T2 T3
              go_wp2_with (fail)
              exact ⟨⟨3, s - V.toNat, _, by rw [show ((s - V.toNat : Nat) : Int) = (s : Int) - V by omega], rfl, by decide, by omega, HE1, HS, HBS.out⟩, by simp [intOf]⟩
            · obtain ⟨y0, y1, y2, y3, y4, y5, rfl⟩ := six_of HE.out.1
              obtain rfl : y3 = 0 := by have := HE.out.2.2 3 (by decide) (by decide); simpa using this
              obtain rfl : y4 = 0 := by have := HE.out.2.2 4 (by decide) (by decide); simpa using this
              obtain rfl : y5 = 0 := by have := HE.out.2.2 5 (by decide) (by decide); simpa using this
              have fa := (HD.out ⟨wr, below_then hB hBi⟩).2.2.2.2.1
              dsimp only at fa
              have xq := heapT_cell HX.out (k := 4) rfl
              have fz := HX.out.frozen 4
              have t1 : a3.tmod 7 = a3 % 7 := Int.tmod_eq_emod_of_nonneg q3.1
              have t2 := T2 a3 q3.1
              obtain ⟨V, hV⟩ : ∃ V, a3 % 7 % ((s : Int) + 1) = V := ⟨_, rfl⟩
              have hv := T3 a3
              rw [hV] at t2 hv
              have hv0 := hv.1
              have hv1 := hv.2
              have hE := HE.out
              have hset := HX.out.set 3 V
              have hBs : Below wo.heap.size wo ((wr.setCell ⟨wo.heap.size, 4, none⟩ (.int .u8 V))) := hBi.setCell (p := ⟨wo.heap.size, 4, none⟩) (Nat.le_refl _) _
              have HS := Lib.hid hset
              have HBS := Lib.hid hBs
              have HE1 : Hid (EV [y0, y1, y2, V, 0, 0] ∧ degE [y0, y1, y2, V, 0, 0] + ((s - V.toNat : Nat) : Int) = 6 ∧ ∀ j, 4 ≤ j → j < 6 → ([y0, y1, y2, V, 0, 0] : List Int)[j]? = some 0) := Lib.hid ⟨⟨rfl, by
                intro x hx
                have h0 := hE.1.2
                simp only [List.mem_cons, List.not_mem_nil, or_false] at hx h0
                rcases hx with rfl | rfl | rfl | rfl | rfl | rfl
                · exact h0 _ (by simp)
                · exact h0 _ (by simp)
                · exact h0 _ (by simp)
                · exact ⟨hv0, by omega⟩
                · decide
                · decide⟩, by
                have h0 := hE.2.1
                simp only [degE, List.sum_cons, List.sum_nil] at h0 ⊢
                omega, by
                intro j h1 h2
                rcases (show j = 4 ∨ j = 5 by omega) with rfl | rfl <;> rfl⟩
              clear hv hV HE hE hset hBs T2 T3
              go_wp2_with (fail)
              exact ⟨⟨4, s - V.toNat, _, by rw [show ((s - V.toNat : Nat) : Int) = (s : Int) - V by omega], rfl, by decide, by omega, HE1, HS, HBS.out⟩, by simp [intOf]⟩
            · obtain ⟨y0, y1, y2, y3, y4, y5, rfl⟩ := six_of HE.out.1
              obtain rfl : y4 = 0 := by have := HE.out.2.2 4 (by decide) (by decide); simpa using this
              obtain rfl : y5 = 0 := by have := HE.out.2.2 5 (by decide) (by decide); simpa using this
              have fa := (HD.out ⟨wr, below_then hB hBi⟩).2.2.2.2.2.1
              dsimp only at fa
              have xq := heapT_cell HX.out (k := 5) rfl
              have fz := HX.out.frozen 5
              have t1 : a4.tmod 7 = a4 % 7 := Int.tmod_eq_emod_of_nonneg q4.1
              have t2 := T2 a4 q4.1
              obtain ⟨V, hV⟩ : ∃ V, a4 % 7 % ((s : Int) + 1) = V := ⟨_, rfl⟩
              have hv := T3 a4
              rw [hV] at t2 hv
              have hv0 := hv.1
              have hv1 := hv.2
              have hE := HE.out
              have hset := HX.out.set 4 V
              have hBs : Below wo.heap.size wo ((wr.setCell ⟨wo.heap.size, 5, none⟩ (.int .u8 V))) := hBi.setCell (p := ⟨wo.heap.size, 5, none⟩) (Nat.le_refl _) _
              have HS := Lib.hid hset
              have HBS := Lib.hid hBs
              have HE1 : Hid (EV [y0, y1, y2, y3, V, 0] ∧ degE [y0, y1, y2, y3, V, 0] + ((s - V.toNat : Nat) : Int) = 6 ∧ ∀ j, 5 ≤ j → j < 6 → ([y0, y1, y2, y3, V, 0] : List Int)[j]? = some 0) := Lib.hid ⟨⟨rfl, by
                intro x hx
                have h0 := hE.1.2
                simp only [List.mem_cons, List.not_mem_nil, or_false] at hx h0
                rcases hx with rfl | rfl | rfl | rfl | rfl | rfl
                · exact h0 _ (by simp)
                · exact h0 _ (by simp)
                · exact h0 _ (by simp)
                · exact h0 _ (by simp)
                · exact ⟨hv0, by omega⟩
                · decide⟩, by
                have h0 := hE.2.1
                simp only [degE, List.sum_cons, List.sum_nil] at h0 ⊢
                omega, by
                intro j h1 h2
                rcases (show j = 5 by omega) with rfl <;> rfl⟩
              clear hv hV HE hE hset hBs T2 T3
              go_wp2_with (fail)
              exact ⟨⟨5, s - V.toNat, _, by rw [show ((s - V.toNat : Nat) : Int) = (s : Int) - V by omega], rfl, by decide, by omega, HE1, HS, HBS.out⟩, by simp [intOf]⟩
            · obtain ⟨y0, y1, y2, y3, y4, y5, rfl⟩ := six_of HE.out.1
              obtain rfl : y5 = 0 := by have := HE.out.2.2 5 (by decide) (by decide); simpa using this
              have fa := (HD.out ⟨wr, below_then hB hBi⟩).2.2.2.2.2.2
              dsimp only at fa
              have xq := heapT_cell HX.out (k := 6) rfl
              have fz := HX.out.frozen 6
              have t1 : a5.tmod 7 = a5 % 7 := Int.tmod_eq_emod_of_nonneg q5.1
              have t2 := T2 a5 q5.1
              obtain ⟨V, hV⟩ : ∃ V, a5 % 7 % ((s : Int) + 1) = V := ⟨_, rfl⟩
              have hv := T3 a5
              rw [hV] at t2 hv
              have hv0 := hv.1
              have hv1 := hv.2
              have hE := HE.out
              have hset := HX.out.set 5 V
              have hBs : Below wo.heap.size wo ((wr.setCell ⟨wo.heap.size, 6, none⟩ (.int .u8 V))) := hBi.setCell (p := ⟨wo.heap.size, 6, none⟩) (Nat.le_refl _) _
              have HS := Lib.hid hset
              have HBS := Lib.hid hBs
              have HE1 : Hid (EV [y0, y1, y2, y3, y4, V] ∧ degE [y0, y1, y2, y3, y4, V] + ((s - V.toNat : Nat) : Int) = 6 ∧ ∀ j, 6 ≤ j → j < 6 → ([y0, y1, y2, y3, y4, V] : List Int)[j]? = some 0) := Lib.hid ⟨⟨rfl, by
                intro x hx
                have h0 := hE.1.2
                simp only [List.mem_cons, List.not_mem_nil, or_false] at hx h0
                rcases hx with rfl | rfl | rfl | rfl | rfl | rfl
                · exact h0 _ (by simp)
                · exact h0 _ (by simp)
                · exact h0 _ (by simp)
                · exact h0 _ (by simp)
                · exact h0 _ (by simp)
                · exact ⟨hv0, by omega⟩⟩, by
                have h0 := hE.2.1
                simp only [degE, List.sum_cons, List.sum_nil] at h0 ⊢
                omega, by
                intro j h1 h2
                exact absurd h1 (by omega)⟩
              clear hv hV HE hE hset hBs T2 T3
              go_wp2_with (fail)
              exact ⟨⟨6, s - V.toNat, _, by rw [show ((s - V.toNat : Nat) : Int) = (s : Int) - V by omega], rfl, by decide, by omega, HE1, HS, HBS.out⟩, by simp [intOf]⟩
          · obtain rfl : q = 6 := by omega
            obtain ⟨y0, y1, y2, y3, y4, y5, rfl⟩ := six_of HE.out.1
            have c0 : wr.cell? ⟨wo.heap.size, 0, none⟩ = some (.int .i64 C) := heapT_cell HX.out rfl
            have c1 : wr.cell? ⟨wo.heap.size, 1, none⟩ = some (.int .u8 y0) := heapT_cell HX.out rfl
            have c2 : wr.cell? ⟨wo.heap.size, 2, none⟩ = some (.int .u8 y1) := heapT_cell HX.out rfl
            have c3 : wr.cell? ⟨wo.heap.size, 3, none⟩ = some (.int .u8 y2) := heapT_cell HX.out rfl
            have c4 : wr.cell? ⟨wo.heap.size, 4, none⟩ = some (.int .u8 y3) := heapT_cell HX.out rfl
            have c5 : wr.cell? ⟨wo.heap.size, 5, none⟩ = some (.int .u8 y4) := heapT_cell HX.out rfl
            have c6 : wr.cell? ⟨wo.heap.size, 6, none⟩ = some (.int .u8 y5) := heapT_cell HX.out rfl
            have hBw := below_then hB hBi
            have HTw := Lib.hid (HT.out.grow hBi)
            have hn := HN.out
            unfold Num at hn
            have hxv : TV (C, [y0, y1, y2, y3, y4, y5]) ∧ Small62 (C, [y0, y1, y2, y3, y4, y5]) := ⟨⟨HE.out.1, by dsimp only; omega, by dsimp only; omega⟩, by unfold Small62; dsimp only; omega⟩
            have HXV := Lib.hid hxv
            rw [show ((6 : Nat) : Int) = 6 from rfl]
            clear hn hxv
            by_cases hC : C = 0
            · have hC' : (C != 0) = false := by simpa using hC
              clear hC
              go_wp2_with (fail)
              exact ⟨⟨m, k + 1, by go_num, by omega, HG, HTw, ⟨_, _, _, _, rfl, hcap⟩, hBw⟩, by simp [intOf]; omega⟩
            · have hC' : (C != 0) = true := by simpa using hC
              clear hC
              have HI := insert_ok b o c' m (C, [y0, y1, y2, y3, y4, y5]) wr HTw.out hcap (good_small HG.out) HXV.out (by have := HG.out.1.2.1; omega)
              rw [show valT (C, [y0, y1, y2, y3, y4, y5]) = .agg #[.int .i64 C, .int .u8 y0, .int .u8 y1, .int .u8 y2, .int .u8 y3, .int .u8 y4, .int .u8 y5] from rfl] at HI
              have htv := Lib.hid (ins_tv HXV.out (good_small HG.out))
              obtain ⟨J, hJ⟩ : ∃ J, insT (C, [y0, y1, y2, y3, y4, y5]) m = J := ⟨_, rfl⟩
              have hgi : VP J → Good5 most J := fun h => by rw [← hJ]; exact good_ins HG.out hlm HXV.out (by rw [hJ]; exact h)
              have HGI := Lib.hid hgi
              rw [hJ] at HI htv
              have HI' := Lib.hid HI
              clear HI hJ hgi
              go_wp2_with (fail)
              refine HI'.out.mono ?_
              rintro e w' ⟨r, rfl, h5, h6, h7, h8⟩
              have hB2 := below_then hBw h8
              have HJ := Lib.hid h5
              by_cases hv : VP J
              · have HV5 := Lib.hid (r5valid_ok r J true w' h5 htv.out ⟨fun _ => hv, fun _ => rfl⟩)
                have HGJ := Lib.hid (HGI.out hv)
                clear hv h5 h7
                go_wp2_with (fail)
                refine HV5.out.mono ?_
                rintro e w2 ⟨rfl, h9⟩
                have HJ2 := Lib.hid (HJ.out.grow h9)
                go_wp2_with (fail)
                exact ⟨⟨J, k + 1, by go_num, by omega, HGJ, HJ2, h6, below_then hB2 h9⟩, by simp [intOf]; omega⟩
              · have HV5 := Lib.hid (r5valid_ok r J false w' h5 htv.out ⟨fun h => absurd h (by decide), fun h => absurd h hv⟩)
                clear hv h5 h7
                go_wp2_with (fail)
                refine HV5.out.mono ?_
                rintro e w2 ⟨rfl, h9⟩
                have hB3 := h8.trans (h9.mono h8.size)
                have HM2 := Lib.hid (HTw.out.grow hB3)
                go_wp2_with (fail)
                exact ⟨⟨m, k + 1, by go_num, by omega, HG, HM2, ⟨_, _, _, _, rfl, hcap⟩, below_then hB2 h9⟩, by simp [intOf]; omega⟩
      · have HTw := HT
        go_wp2_with (fail)
        go_ret
        exact ⟨_, rfl, m, HTw.out, ⟨_, _, _, _, rfl, hcap⟩, HG.out, hB⟩
    · have i1 : ¬ (k : Int) < l.length := by omega
      go_wp2_with (fail)
      go_ret
      exact ⟨_, rfl, m, HT.out, ⟨_, _, _, _, rfl, hcap⟩, HG.out, hB⟩
end Go.Proofs.Ytcamjoddaeefdaa
