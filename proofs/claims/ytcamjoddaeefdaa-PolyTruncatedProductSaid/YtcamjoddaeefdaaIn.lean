/-
  The reference's insert.
-/
import Derived.Test.YtcamjoddaeefdaaPk5
namespace Go.Proofs.Ytcamjoddaeefdaa
open Go.ChangeShapes Go.WideShapes Go.ChangeAt Go.RowKit
set_option linter.unusedVariables false
set_option linter.unusedSimpArgs false
set_option maxRecDepth 100000

attribute [local irreducible] Calls
theorem own_empty (W : World) : (W.alloc (.cells #[] 39)).ownsRow W.heap.size 39 7 (.slice (some ⟨W.heap.size, 0, none⟩) 0 0) 0 [] :=
  ⟨rfl, .inr ⟨W.heap.size, 0, #[], rfl, Nat.le_refl _, World.alloc_heap_new W _, Nat.le_refl _, Nat.zero_le _, rfl, rfl⟩⟩
theorem Tx.take {w : World} {b o n c : Nat} {l : List Tm} (k : Nat) (hk : k ≤ l.length) (h : Tx w (.slice (some ⟨b, o, none⟩) n c) l) (hc : n ≤ c) : Tx w (.slice (some ⟨b, o, none⟩) (l.take k).length c) (l.take k) := by
  obtain ⟨h1, p, c', e, h2⟩ := h
  simp only [Value.slice.injEq] at e
  refine ⟨by rw [List.length_take]; omega, _, _, rfl, fun i x hx => ?_⟩
  rw [List.getElem?_take] at hx
  split at hx
  · obtain ⟨b', o', hp, h3, h4⟩ := h2 i x hx
    exact ⟨b', o', e.1.trans hp, h3, h4⟩
  · cases hx
theorem Tx.drop {w : World} {b o n c : Nat} {l : List Tm} (k : Nat) (hk : k ≤ l.length) (h : Tx w (.slice (some ⟨b, o, none⟩) n c) l) (hc : n ≤ c) : Tx w (.slice (if c = k then some ⟨b, o, none⟩ else some ⟨b, o + k * 7, none⟩) (l.drop k).length (c - k)) (l.drop k) := by
  obtain ⟨h1, p, c', e, h2⟩ := h
  simp only [Value.slice.injEq] at e
  obtain ⟨e1, e2, e3⟩ := e
  refine ⟨by rw [List.length_drop]; omega, _, _, rfl, fun i y hy => ?_⟩
  rw [List.getElem?_drop] at hy
  have hl := (List.getElem?_eq_some_iff.1 hy).1
  rw [if_neg (by omega)]
  obtain ⟨b', o', hp, h3, h4⟩ := h2 (k + i) y hy
  rw [hp] at e1
  simp only [Option.some.injEq, Addr.mk.injEq, and_true] at e1
  obtain ⟨rfl, rfl⟩ := e1
  refine ⟨_, _, rfl, h3, fun j u hu => ?_⟩
  have := h4 j u hu
  rw [show o + k * 7 + i * 7 + j = o + (k + i) * 7 + j by omega]
  exact this
theorem Tx.cap {w : World} {p : Option Addr} {n c : Nat} {l : List Tm} (h : Tx w (.slice p n c) l) (c' : Nat) : Tx w (.slice p n c') l := by
  obtain ⟨h1, q, d, e, h2⟩ := h
  simp only [Value.slice.injEq] at e
  exact ⟨h1, q, c', by rw [e.1, e.2.1], h2⟩
theorem ins_len6 {x : Tm} (hx : x.2.length = 6) : ∀ {l : List Tm}, (∀ t ∈ l, t.2.length = 6) → ∀ t ∈ insT x l, t.2.length = 6
  | [], _, t, ht => by simp [insT] at ht; subst ht; exact hx
  | q :: r, h, t, ht => by
    unfold insT at ht
    split at ht
    · rcases List.mem_cons.1 ht with rfl | ht
      · exact h _ (by simp)
      · exact ins_len6 hx (fun t ht => h t (by simp [ht])) t ht
    · split at ht
      · rcases List.mem_cons.1 ht with rfl | ht
        · exact hx
        · exact h t (by simp [ht])
      · rcases List.mem_cons.1 ht with rfl | ht
        · exact hx
        · exact h t ht
theorem ins_skip {x a : Tm} {l : List Tm} {k : Nat} (h : insT x l = l.take k ++ insT x (l.drop k)) (ha : l[k]? = some a) (hc : cmpE a.2 x.2 < 0) : insT x l = l.take (k + 1) ++ insT x (l.drop (k + 1)) := by
  have hd : l.drop k = a :: l.drop (k + 1) := by
    obtain ⟨hk, e⟩ := List.getElem?_eq_some_iff.1 ha
    rw [List.drop_eq_getElem_cons hk, e]
  have e1 : insT x (a :: l.drop (k + 1)) = a :: insT x (l.drop (k + 1)) := by
    conv => lhs; unfold insT
    rw [if_pos hc]
  rw [h, hd, e1, List.take_add_one, ha]
  simp
theorem ins_hit {x a : Tm} {l : List Tm} {k : Nat} (h : insT x l = l.take k ++ insT x (l.drop k)) (ha : l[k]? = some a) (hc : cmpE a.2 x.2 = 0) : insT x l = l.take k ++ (x.1 + a.1, x.2) :: l.drop (k + 1) := by
  have hd : l.drop k = a :: l.drop (k + 1) := by
    obtain ⟨hk, e⟩ := List.getElem?_eq_some_iff.1 ha
    rw [List.drop_eq_getElem_cons hk, e]
  rw [h, hd]
  congr 1
  conv => lhs; unfold insT
  rw [if_neg (by omega), if_pos hc]
theorem ins_here {x a : Tm} {l : List Tm} {k : Nat} (h : insT x l = l.take k ++ insT x (l.drop k)) (ha : l[k]? = some a) (hc : 0 < cmpE a.2 x.2) : insT x l = l.take k ++ x :: l.drop k := by
  have hd : l.drop k = a :: l.drop (k + 1) := by
    obtain ⟨hk, e⟩ := List.getElem?_eq_some_iff.1 ha
    rw [List.drop_eq_getElem_cons hk, e]
  rw [h, hd]
  congr 1
  conv => lhs; unfold insT
  rw [if_neg (by omega), if_neg (by omega)]
theorem ins_end {x : Tm} {l : List Tm} (h : insT x l = l.take l.length ++ insT x (l.drop l.length)) : insT x l = l.take l.length ++ x :: l.drop l.length := by
  rw [h, List.drop_length]
  rfl
def SomeS (v : Value) : Prop := ∃ b o n c, v = .slice (some ⟨b, o, none⟩) n c ∧ n ≤ c
theorem some_own {W : World} {B n : Nat} {v : Value} {xs : List Value} (h : W.ownsRow B 39 7 v n xs) (hn : 0 < n) : SomeS v := by
  rcases h.2 with ⟨_, h0⟩ | ⟨g, cap, cur, rfl, _, _, hle, _⟩
  · omega
  · exact ⟨g, 0, n, cap, rfl, hle⟩
set_option maxHeartbeats 16000000 in
theorem insert_ok (b o c : Nat) (l : List Tm) (x : Tm) (w : World) (hv : Tx w (.slice (some ⟨b, o, none⟩) l.length c) l) (hc : l.length ≤ c) (hl : ∀ t ∈ l, TV t ∧ Small62 t) (hx : TV x ∧ Small62 x) (hsm : l.length ≤ 1000000) :
    Calls Try.prog 53 #[.slice (some ⟨b, o, none⟩) l.length c, valT x] w fun e w' => ∃ r, e = .returned r ∧ Tx w' r (insT x l) ∧ SomeS r ∧ NewB w.heap.size r ∧ Below w.heap.size w w' := by
  obtain ⟨i0, hi, hz0, hz1, hz2⟩ := info_parts info_t
  obtain ⟨kx, x0, x1, x2, x3, x4, x5, rfl⟩ := six_at hx.1
  rw [show valT (kx, [x0, x1, x2, x3, x4, x5]) = .agg #[.int .i64 kx, .int .u8 x0, .int .u8 x1, .int .u8 x2, .int .u8 x3, .int .u8 x4, .int .u8 x5] from rfl]
  have HV := Lib.hid hv
  have HL := Lib.hid hl
  have HXV := Lib.hid hx
  have hB1 : Below w.heap.size w (w.alloc (.cells #[.int .i64 kx, .int .u8 x0, .int .u8 x1, .int .u8 x2, .int .u8 x3, .int .u8 x4, .int .u8 x5] 39)) := (Below.refl _ _).alloc (Nat.le_refl _) _
  have hX1 : (w.alloc (.cells #[.int .i64 kx, .int .u8 x0, .int .u8 x1, .int .u8 x2, .int .u8 x3, .int .u8 x4, .int .u8 x5] 39)).heap[w.heap.size]? = some (.cells #[.int .i64 kx, .int .u8 x0, .int .u8 x1, .int .u8 x2, .int .u8 x3, .int .u8 x4, .int .u8 x5] 39 (0, 0)) := World.alloc_heap_new w _
  clear hv hl hx
  go_enter Try.func53, Try.ntmps53
  go_wp2_with (fail)
  obtain ⟨W1, hW1⟩ : ∃ W, w.alloc (.cells #[.int .i64 kx, .int .u8 x0, .int .u8 x1, .int .u8 x2, .int .u8 x3, .int .u8 x4, .int .u8 x5] 39) = W := ⟨_, rfl⟩
  have hs1 : w.heap.size < W1.heap.size := by rw [← hW1]; simp
  rw [hW1] at hB1 hX1
  rw [hW1]
  clear hW1
  have HX1 := Lib.hid hX1
  go_loopw [5] (fun i wr => ∃ k : Nat, i = .int .i64 k ∧ k ≤ l.length ∧ Hid (insT (kx, [x0, x1, x2, x3, x4, x5]) l = l.take k ++ insT (kx, [x0, x1, x2, x3, x4, x5]) (l.drop k)) ∧ ∃ g : Grown W1, wr = g.w) (fun i _ => l.length - (intOf i).toNat)
  case atStart => exact ⟨0, rfl, Nat.zero_le _, Lib.hid (by simp), ⟨W1, Below.refl _ _⟩, rfl⟩
  case round =>
    obtain ⟨k, rfl, hk, HK, g0, rfl⟩ := hrel
    have xb := fun g : Grown W1 => g.h.block w.heap.size hs1
    have xc := fun (g : Grown W1) (j : Nat) (u : Value) (hj : (#[.int .i64 kx, .int .u8 x0, .int .u8 x1, .int .u8 x2, .int .u8 x3, .int .u8 x4, .int .u8 x5] : Array Value)[j]? = some u) => heapT_cell ((xb g).trans HX1.out) hj
    have y1 := fun g => xc g 1 _ rfl
    have y2 := fun g => xc g 2 _ rfl
    have y3 := fun g => xc g 3 _ rfl
    have y4 := fun g => xc g 4 _ rfl
    have y5 := fun g => xc g 5 _ rfl
    have y6 := fun g => xc g 6 _ rfl
    clear xb xc
    by_cases hlt : k < l.length
    · have i1 : (k : Int) < l.length := by omega
      obtain ⟨a, ha⟩ : ∃ a, l[k]? = some a := ⟨_, List.getElem?_eq_getElem hlt⟩
      have hav := HL.out a (List.mem_of_getElem? ha)
      obtain ⟨ka, a0, a1, a2, a3, a4, a5, rfl⟩ := six_at hav.1
      obtain ⟨b', o', hp, hb, rda⟩ := HV.out.rd7 ha
      simp only [Option.some.injEq, Addr.mk.injEq, and_true] at hp
      obtain ⟨rfl, rfl⟩ := hp
      have fa := fun g : Grown W1 => rda ⟨g.w, below_then hB1 g.h⟩
      dsimp only at fa
      have fa1 := fun g => (fa g).2.1
      have fa2 := fun g => (fa g).2.2.1
      have fa3 := fun g => (fa g).2.2.2.1
      have fa4 := fun g => (fa g).2.2.2.2.1
      have fa5 := fun g => (fa g).2.2.2.2.2.1
      have fa6 := fun g => (fa g).2.2.2.2.2.2
      have HA := Lib.hid ha
      have HAV := Lib.hid hav
      have HRD := Lib.hid rda
      have HO := Lib.hid (fun w => r5order [a0, a1, a2, a3, a4, a5] [x0, x1, x2, x3, x4, x5] w hav.1.1 HXV.out.1.1)
      rw [show valE [a0, a1, a2, a3, a4, a5] = .agg #[.int .u8 a0, .int .u8 a1, .int .u8 a2, .int .u8 a3, .int .u8 a4, .int .u8 a5] from rfl, show valE [x0, x1, x2, x3, x4, x5] = .agg #[.int .u8 x0, .int .u8 x1, .int .u8 x2, .int .u8 x3, .int .u8 x4, .int .u8 x5] from rfl] at HO
      obtain ⟨C, hC⟩ : ∃ C, cmpE [a0, a1, a2, a3, a4, a5] [x0, x1, x2, x3, x4, x5] = C := ⟨_, rfl⟩
      rw [hC] at HO
      have HC := Lib.hid hC
      clear fa ha hav rda hC
      by_cases hc0 : C < 0
      · have HN := Lib.hid (ins_skip HK.out HA.out (by dsimp only; rw [HC.out]; exact hc0))
        go_wp2_with (fail)
        refine region_quiet' g0 (by kernel_rfl) (by kernel_rfl) ?_
        repeat (go_big_quiet_step (first | exact qc (HO.out _)))
        refine wpQuiet_nil ?_
        rintro _ ⟨g1, rfl⟩
        go_wp2_with (fail)
        go_roundw
        case rel => exact ⟨k + 1, by go_num, by omega, HN, g1, rfl⟩
        case measure => simp [intOf]; omega
      · have hc1 : 0 ≤ C := by omega
        go_wp2_with (fail)
        refine region_quiet' g0 (by kernel_rfl) (by kernel_rfl) ?_
        repeat (go_big_quiet_step (first | exact qc (HO.out _)))
        refine wpQuiet_nil ?_
        rintro _ ⟨g1, rfl⟩
        clear fa1 fa2 fa3 fa4 fa5 fa6 y1 y2 y3 y4 y5 y6
        have rda := HRD.out
        have hlk : (l.take k).length = k := by rw [List.length_take]; omega
        have hxk := Tx.take k (by omega) HV.out hc
        have h6k : ∀ t ∈ l.take k, t.2.length = 6 := fun t ht => (HL.out t (List.mem_of_mem_take ht)).1.1.1
        have hW2 : Below g1.w.heap.size g1.w (g1.w.alloc (.cells #[] 39)) := (Below.refl _ _).alloc (Nat.le_refl _) _
        have hown0 := own_empty g1.w
        have htk := (hxk.grow (below_then hB1 g1.h)).grow hW2
        go_wp2_with (at_builtin; refine wpList_append_tx rfl (.tmp 24) (.tmp 27) rfl g1.w.heap.size (.slice (some ⟨g1.w.heap.size, 0, none⟩) 0 0) 0 [] rfl hown0 (some ⟨b, o, none⟩) c (l.take k) (by rw [hlk]; rfl) htk h6k (fun h => by cases h) (by rw [hlk]; unfold maxLen; omega) (by rw [hlk]; omega) (by simp) ?_)
        intro v3 w3 hown3 hg3
        have hB3 : Below g1.w.heap.size g1.w w3 := Below.grown hW2 hg3 hW2.size (fun j hj => by simp [Value.ownBlock] at hj; omega)
        have hB13 := g1.h.trans (hB3.mono g1.h.size)
        try simp only [List.nil_append, Nat.zero_add] at hown3
        have HO3 := Lib.hid hown3
        have HB3 := Lib.hid hB13
        have hle3 : W1.heap.size ≤ g1.w.heap.size := g1.h.size
        have hle4 : g1.w.heap.size ≤ w3.heap.size := hB3.size
        clear hown3 hg3 hown0 htk hxk h6k hW2 hB3 hB13
        by_cases hce : C = 0
        · subst hce
          obtain ⟨q0, hq0⟩ : ∃ g : Grown w3, w3 = g.w := ⟨⟨w3, Below.refl _ _⟩, rfl⟩
          have fb := fun g : Grown w3 => rda ⟨g.w, below_then hB1 (HB3.out.trans (g.h.mono HB3.out.size))⟩
          have fb0 := fun g => (fb g).1
          have fb1 := fun g => (fb g).2.1
          have fb2 := fun g => (fb g).2.2.1
          have fb3 := fun g => (fb g).2.2.2.1
          have fb4 := fun g => (fb g).2.2.2.2.1
          have fb5 := fun g => (fb g).2.2.2.2.2.1
          have fb6 := fun g => (fb g).2.2.2.2.2.2
          have xb := fun g : Grown w3 => (HB3.out.trans (g.h.mono HB3.out.size)).block w.heap.size (by omega)
          have xc := fun (g : Grown w3) (j : Nat) (u : Value) (hj : (#[.int .i64 kx, .int .u8 x0, .int .u8 x1, .int .u8 x2, .int .u8 x3, .int .u8 x4, .int .u8 x5] : Array Value)[j]? = some u) => heapT_cell ((xb g).trans HX1.out) hj
          have y0 := fun g => xc g 0 _ rfl
          have y1 := fun g => xc g 1 _ rfl
          have y2 := fun g => xc g 2 _ rfl
          have y3 := fun g => xc g 3 _ rfl
          have y4 := fun g => xc g 4 _ rfl
          have y5 := fun g => xc g 5 _ rfl
          have y6 := fun g => xc g 6 _ rfl
          clear fb xb xc
          rw [hq0]
          go_wp2_with (fail)
          refine region_quiet' q0 (by kernel_rfl) (by kernel_rfl) ?_
          repeat (go_big_quiet_step (first | exact qc (HO.out _)))
          refine wpQuiet_nil ?_
          rintro _ ⟨g5, rfl⟩
          have hB5a := HB3.out.trans (g5.h.mono HB3.out.size)
          have hX5 := (hB5a.block w.heap.size hs1).trans HX1.out
          have e0 := heapT_cell hX5 (k := 0) rfl
          have fz : g5.w.frozen? ⟨w.heap.size, 0, none⟩ = false := by simp [World.frozen?, hX5]
          have fk := (rda ⟨g5.w, below_then hB1 hB5a⟩).1
          dsimp only at fk
          have hs62 := HAV.out.2
          have hx62 := HXV.out.2
          unfold Small62 at hs62 hx62
          dsimp only at hs62 hx62
          have Wk : IntKind.i64.wrap (kx + ka) = kx + ka := wrap_i64 _ (by omega) (by omega)
          have HR5 := Lib.hid (own_keptT HO3.out g5.h)
          have HX5 := Lib.hid hX5
          have HB5 := Lib.hid hB5a
          have hle5 : g1.w.heap.size ≤ g5.w.heap.size := Nat.le_trans hle4 g5.h.size
          clear hX5 hB5a
          go_wp2_with (fail)
          go_region
          obtain ⟨W5, hW5e⟩ : ∃ W, (g5.w.setCell ⟨w.heap.size, 0, none⟩ (.int .i64 (kx + ka))).drew = W := ⟨_, rfl⟩
          have hrow5' : W5.ownsRow g1.w.heap.size 39 7 v3 k (ct (l.take k)) := by
            rw [← hW5e]
            refine own_keptT (HR5.out.kept (grownBy_setT _ ⟨w.heap.size, 0, none⟩ _) ?_) ((Below.refl _ _).drew)
            refine .inr fun e => ?_
            have := (HR5.out.lt w.heap.size (by simpa using e)).1
            omega
          have hX6 : W5.heap[w.heap.size]? = some (.cells #[.int .i64 (kx + ka), .int .u8 x0, .int .u8 x1, .int .u8 x2, .int .u8 x3, .int .u8 x4, .int .u8 x5] 39 (0, 0)) := by
            rw [← hW5e]
            exact cellsT_set (o := 0) (u := .int .i64 (kx + ka)) (W := g5.w) HX5.out
          have hB5b : Below w.heap.size w W5 := by
            rw [← hW5e]
            exact ((below_then hB1 HB5.out).setCell (p := ⟨w.heap.size, 0, none⟩) (Nat.le_refl _) _).drew
          have hsz5 : g1.w.heap.size ≤ W5.heap.size := by rw [← hW5e]; simpa using hle5
          have hk1c : ((k + 1 : Nat) : Int) = (k : Int) + 1 := by omega
          rw [hW5e]
          clear hW5e e0 fz fk Wk
          have hrow5 := hrow5'
          have z0 := heapT_cell hX6 (k := 0) rfl
          have z1 := heapT_cell hX6 (k := 1) rfl
          have z2 := heapT_cell hX6 (k := 2) rfl
          have z3 := heapT_cell hX6 (k := 3) rfl
          have z4 := heapT_cell hX6 (k := 4) rfl
          have z5 := heapT_cell hX6 (k := 5) rfl
          have z6 := heapT_cell hX6 (k := 6) rfl
          have hB5 := hB5b
          have hW5 : g1.w.heap.size ≤ W5.heap.size := hsz5
          go_wp2_with (at_builtin; refine wpList_append_own _ rfl (.tmp 55) (.tmp 57) 22 rfl g1.w.heap.size 39 i0 (.agg #[.int .i64 0, .int .u8 0, .int .u8 0, .int .u8 0, .int .u8 0, .int .u8 0, .int .u8 0]) 7 16 Try.underlying22 hi hz0 hz1 hz2 rfl (by decide) v3 k _ rfl (hrow5.alloc _) ⟨W5.heap.size, 0, none⟩ 1 1 [.int .i64 (kx + ka), .int .u8 x0, .int .u8 x1, .int .u8 x2, .int .u8 x3, .int .u8 x4, .int .u8 x5] rfl rfl (new_t _ _ _ _ _ _ _ _) (one_t _ _ _ _ _ _ _) (by unfold maxLen; omega) (by omega) (by simp only [World.size_alloc]; omega) ?_)
          intro v6 w6 hown6 hg6 _
          have hB6 : Below w.heap.size w w6 := Below.grown (hB5.alloc hB5.size _) hg6 (by simp only [World.size_alloc]; exact Nat.le_succ_of_le hB5.size) (fun j hj => by have := (hrow5.lt j hj).1; omega)
          obtain ⟨gg6, cc6, rfl⟩ := ownsRow_succ hown6
          have hle6 : g1.w.heap.size ≤ w6.heap.size := by have := hg6.size; simp only [World.size_alloc] at this; omega
          have HO6 := Lib.hid hown6
          have HB6 := Lib.hid hB6
          clear hown6 hg6 hB6 hrow5 z0 z1 z2 z3 z4 z5 z6 hB5
          have hdr := Tx.drop (k + 1) (by omega) HV.out hc
          have htd := hdr.grow (id HB6.out)
          have hld : (l.drop ((k + 1))).length = l.length - ((k + 1)) := by rw [List.length_drop]
          have h6d : ∀ t ∈ l.drop ((k + 1)), t.2.length = 6 := fun t ht => (HL.out t (List.mem_of_mem_drop ht)).1.1.1
          have i9 : (((k + 1) : Nat) : Int) ≤ l.length := by omega
          have i10 : (l.length : Int) ≤ c := by omega
          rw [hk1c] at i9
          by_cases hck : c = (k + 1)
          · subst hck
            rw [if_pos rfl] at htd
            go_wp2_with (at_builtin; refine wpList_append_tx rfl (.tmp 59) (.tmp 62) rfl g1.w.heap.size (.slice (some ⟨gg6, 0, none⟩) (k + 1) cc6) (k + 1) _ rfl HO6.out _ _ (l.drop ((k + 1))) (by rw [hld]; first | rfl | (rw [Nat.sub_eq_zero_of_le (by omega)]; rfl)) (htd.cap _) h6d (fun h => by cases h) (by rw [hld]; unfold maxLen; omega) (by rw [hld]; omega) (by omega) ?_)
            intro v7 w7 hown7 hg7
            have hB7 : Below w.heap.size w w7 := Below.grown HB6.out hg7 HB6.out.size (fun j hj => by have := (HO6.out.lt j hj).1; omega)
            have heq : ct (insT (kx, [x0, x1, x2, x3, x4, x5]) l) = ct (l.take k) ++ [.int .i64 (kx + ka), .int .u8 x0, .int .u8 x1, .int .u8 x2, .int .u8 x3, .int .u8 x4, .int .u8 x5] ++ ct (l.drop ((k + 1))) := by
              rw [ins_hit HK.out HA.out (by dsimp only; rw [HC.out])]
              simp [ct, encT]
            have hlen : (insT (kx, [x0, x1, x2, x3, x4, x5]) l).length = k + 1 + (l.drop ((k + 1))).length := by
              rw [ins_hit HK.out HA.out (by dsimp only; rw [HC.out])]
              simp only [List.length_append, List.length_cons, hlk]
              omega
            have hown8 : w7.ownsRow g1.w.heap.size 39 7 v7 (insT (kx, [x0, x1, x2, x3, x4, x5]) l).length (ct (insT (kx, [x0, x1, x2, x3, x4, x5]) l)) := by rw [heq, hlen, hld]; first | (simpa using hown7; done) | (simpa [show l.length - ((k + 1)) = 0 by omega] using hown7)
            have h6i : ∀ t ∈ insT (kx, [x0, x1, x2, x3, x4, x5]) l, t.2.length = 6 := fun t ht => ins_len6 (x := (kx, [x0, x1, x2, x3, x4, x5])) rfl (fun t ht => (HL.out t ht).1.1.1) t ht
            have htx := Tx.own hown8 (by rw [hlen, hld]; unfold maxLen; omega) h6i
            have hcap := capok_own hown8
            have hnw : NewB w.heap.size v7 := ⟨hcap, fun j hj => by have := (hown8.lt j hj).1; omega⟩
            have hpos : 0 < (insT (kx, [x0, x1, x2, x3, x4, x5]) l).length := by rw [hlen]; omega
            have hsm := some_own hown8 hpos
            clear hown7 hown8 hg7
            go_wp2_with (fail)
            go_ret
            exact ⟨_, rfl, htx, hsm, hnw, id hB7⟩
          · rw [if_neg hck] at htd
            go_wp2_with (at_builtin; refine wpList_append_tx rfl (.tmp 59) (.tmp 62) rfl g1.w.heap.size (.slice (some ⟨gg6, 0, none⟩) (k + 1) cc6) (k + 1) _ rfl HO6.out _ _ (l.drop ((k + 1))) (by rw [hld]; first | rfl | (rw [Nat.sub_eq_zero_of_le (by omega)]; rfl)) (htd.cap _) h6d (fun h => by cases h) (by rw [hld]; unfold maxLen; omega) (by rw [hld]; omega) (by omega) ?_)
            intro v7 w7 hown7 hg7
            have hB7 : Below w.heap.size w w7 := Below.grown HB6.out hg7 HB6.out.size (fun j hj => by have := (HO6.out.lt j hj).1; omega)
            have heq : ct (insT (kx, [x0, x1, x2, x3, x4, x5]) l) = ct (l.take k) ++ [.int .i64 (kx + ka), .int .u8 x0, .int .u8 x1, .int .u8 x2, .int .u8 x3, .int .u8 x4, .int .u8 x5] ++ ct (l.drop ((k + 1))) := by
              rw [ins_hit HK.out HA.out (by dsimp only; rw [HC.out])]
              simp [ct, encT]
            have hlen : (insT (kx, [x0, x1, x2, x3, x4, x5]) l).length = k + 1 + (l.drop ((k + 1))).length := by
              rw [ins_hit HK.out HA.out (by dsimp only; rw [HC.out])]
              simp only [List.length_append, List.length_cons, hlk]
              omega
            have hown8 : w7.ownsRow g1.w.heap.size 39 7 v7 (insT (kx, [x0, x1, x2, x3, x4, x5]) l).length (ct (insT (kx, [x0, x1, x2, x3, x4, x5]) l)) := by rw [heq, hlen, hld]; first | (simpa using hown7; done) | (simpa [show l.length - ((k + 1)) = 0 by omega] using hown7)
            have h6i : ∀ t ∈ insT (kx, [x0, x1, x2, x3, x4, x5]) l, t.2.length = 6 := fun t ht => ins_len6 (x := (kx, [x0, x1, x2, x3, x4, x5])) rfl (fun t ht => (HL.out t ht).1.1.1) t ht
            have htx := Tx.own hown8 (by rw [hlen, hld]; unfold maxLen; omega) h6i
            have hcap := capok_own hown8
            have hnw : NewB w.heap.size v7 := ⟨hcap, fun j hj => by have := (hown8.lt j hj).1; omega⟩
            have hpos : 0 < (insT (kx, [x0, x1, x2, x3, x4, x5]) l).length := by rw [hlen]; omega
            have hsm := some_own hown8 hpos
            clear hown7 hown8 hg7
            go_wp2_with (fail)
            go_ret
            exact ⟨_, rfl, htx, hsm, hnw, id hB7⟩
        · have hcp : 0 < C := by omega
          have hcd : (C == 0) = false := by simpa using hce
          obtain ⟨q0, hq0⟩ : ∃ g : Grown w3, w3 = g.w := ⟨⟨w3, Below.refl _ _⟩, rfl⟩
          have fb := fun g : Grown w3 => rda ⟨g.w, below_then hB1 (HB3.out.trans (g.h.mono HB3.out.size))⟩
          have fb0 := fun g => (fb g).1
          have fb1 := fun g => (fb g).2.1
          have fb2 := fun g => (fb g).2.2.1
          have fb3 := fun g => (fb g).2.2.2.1
          have fb4 := fun g => (fb g).2.2.2.2.1
          have fb5 := fun g => (fb g).2.2.2.2.2.1
          have fb6 := fun g => (fb g).2.2.2.2.2.2
          have xb := fun g : Grown w3 => (HB3.out.trans (g.h.mono HB3.out.size)).block w.heap.size (by omega)
          have xc := fun (g : Grown w3) (j : Nat) (u : Value) (hj : (#[.int .i64 kx, .int .u8 x0, .int .u8 x1, .int .u8 x2, .int .u8 x3, .int .u8 x4, .int .u8 x5] : Array Value)[j]? = some u) => heapT_cell ((xb g).trans HX1.out) hj
          have y0 := fun g => xc g 0 _ rfl
          have y1 := fun g => xc g 1 _ rfl
          have y2 := fun g => xc g 2 _ rfl
          have y3 := fun g => xc g 3 _ rfl
          have y4 := fun g => xc g 4 _ rfl
          have y5 := fun g => xc g 5 _ rfl
          have y6 := fun g => xc g 6 _ rfl
          clear fb xb xc
          rw [hq0]
          go_wp2_with (fail)
          refine region_quiet' q0 (by kernel_rfl) (by kernel_rfl) ?_
          repeat (go_big_quiet_step (first | exact qc (HO.out _)))
          refine wpQuiet_nil ?_
          rintro _ ⟨g5, rfl⟩
          have hrow5 := own_keptT HO3.out g5.h
          have z0 := heapT_cell (((HB3.out.trans (g5.h.mono HB3.out.size)).block w.heap.size hs1).trans HX1.out) (k := 0) rfl
          have z1 := heapT_cell (((HB3.out.trans (g5.h.mono HB3.out.size)).block w.heap.size hs1).trans HX1.out) (k := 1) rfl
          have z2 := heapT_cell (((HB3.out.trans (g5.h.mono HB3.out.size)).block w.heap.size hs1).trans HX1.out) (k := 2) rfl
          have z3 := heapT_cell (((HB3.out.trans (g5.h.mono HB3.out.size)).block w.heap.size hs1).trans HX1.out) (k := 3) rfl
          have z4 := heapT_cell (((HB3.out.trans (g5.h.mono HB3.out.size)).block w.heap.size hs1).trans HX1.out) (k := 4) rfl
          have z5 := heapT_cell (((HB3.out.trans (g5.h.mono HB3.out.size)).block w.heap.size hs1).trans HX1.out) (k := 5) rfl
          have z6 := heapT_cell (((HB3.out.trans (g5.h.mono HB3.out.size)).block w.heap.size hs1).trans HX1.out) (k := 6) rfl
          have hB5 := HB3.out.trans (g5.h.mono HB3.out.size)
          have hW5 : g1.w.heap.size ≤ g5.w.heap.size := Nat.le_trans hle4 g5.h.size
          go_wp2_with (at_builtin; refine wpList_append_own _ rfl (.tmp 55) (.tmp 57) 22 rfl g1.w.heap.size 39 i0 (.agg #[.int .i64 0, .int .u8 0, .int .u8 0, .int .u8 0, .int .u8 0, .int .u8 0, .int .u8 0]) 7 16 Try.underlying22 hi hz0 hz1 hz2 rfl (by decide) v3 k _ rfl (hrow5.alloc _) ⟨g5.w.heap.size, 0, none⟩ 1 1 [.int .i64 kx, .int .u8 x0, .int .u8 x1, .int .u8 x2, .int .u8 x3, .int .u8 x4, .int .u8 x5] rfl rfl (new_t _ _ _ _ _ _ _ _) (one_t _ _ _ _ _ _ _) (by unfold maxLen; omega) (by omega) (by simp only [World.size_alloc]; omega) ?_)
          intro v6 w6 hown6 hg6 _
          have hB6 : Below W1.heap.size W1 w6 := Below.grown (hB5.alloc hB5.size _) hg6 (by simp only [World.size_alloc]; exact Nat.le_succ_of_le hB5.size) (fun j hj => by have := (hrow5.lt j hj).1; omega)
          obtain ⟨gg6, cc6, rfl⟩ := ownsRow_succ hown6
          have hle6 : g1.w.heap.size ≤ w6.heap.size := by have := hg6.size; simp only [World.size_alloc] at this; omega
          have HO6 := Lib.hid hown6
          have HB6 := Lib.hid hB6
          clear hown6 hg6 hB6 hrow5 z0 z1 z2 z3 z4 z5 z6 hB5
          have hdr := Tx.drop k (by omega) HV.out hc
          have htd := hdr.grow (below_then hB1 HB6.out)
          have hld : (l.drop (k)).length = l.length - (k) := by rw [List.length_drop]
          have h6d : ∀ t ∈ l.drop (k), t.2.length = 6 := fun t ht => (HL.out t (List.mem_of_mem_drop ht)).1.1.1
          have i9 : ((k : Nat) : Int) ≤ l.length := by omega
          have i10 : (l.length : Int) ≤ c := by omega
          skip
          rw [if_neg (show ¬ c = k by omega)] at htd
          go_wp2_with (at_builtin; refine wpList_append_tx rfl (.tmp 59) (.tmp 62) rfl g1.w.heap.size (.slice (some ⟨gg6, 0, none⟩) (k + 1) cc6) (k + 1) _ rfl HO6.out _ _ (l.drop (k)) (by rw [hld]; rfl) (htd.cap _) h6d (fun h => by cases h) (by rw [hld]; unfold maxLen; omega) (by rw [hld]; omega) (by omega) ?_)
          intro v7 w7 hown7 hg7
          have hB7 : Below W1.heap.size W1 w7 := Below.grown HB6.out hg7 HB6.out.size (fun j hj => by have := (HO6.out.lt j hj).1; omega)
          have heq : ct (insT (kx, [x0, x1, x2, x3, x4, x5]) l) = ct (l.take k) ++ [.int .i64 kx, .int .u8 x0, .int .u8 x1, .int .u8 x2, .int .u8 x3, .int .u8 x4, .int .u8 x5] ++ ct (l.drop (k)) := by
            rw [ins_here HK.out HA.out (by dsimp only; rw [HC.out]; exact hcp)]
            simp [ct, encT]
          have hlen : (insT (kx, [x0, x1, x2, x3, x4, x5]) l).length = k + 1 + (l.drop (k)).length := by
            rw [ins_here HK.out HA.out (by dsimp only; rw [HC.out]; exact hcp)]
            simp only [List.length_append, List.length_cons, hlk]
            omega
          have hown8 : w7.ownsRow g1.w.heap.size 39 7 v7 (insT (kx, [x0, x1, x2, x3, x4, x5]) l).length (ct (insT (kx, [x0, x1, x2, x3, x4, x5]) l)) := by rw [heq, hlen, hld]; first | (simpa using hown7; done) | (simpa [show l.length - (k) = 0 by omega] using hown7)
          have h6i : ∀ t ∈ insT (kx, [x0, x1, x2, x3, x4, x5]) l, t.2.length = 6 := fun t ht => ins_len6 (x := (kx, [x0, x1, x2, x3, x4, x5])) rfl (fun t ht => (HL.out t ht).1.1.1) t ht
          have htx := Tx.own hown8 (by rw [hlen, hld]; unfold maxLen; omega) h6i
          have hcap := capok_own hown8
          have hnw : NewB w.heap.size v7 := ⟨hcap, fun j hj => by have := (hown8.lt j hj).1; omega⟩
          have hpos : 0 < (insT (kx, [x0, x1, x2, x3, x4, x5]) l).length := by rw [hlen]; omega
          have hsm := some_own hown8 hpos
          clear hown7 hown8 hg7
          go_wp2_with (fail)
          go_ret
          exact ⟨_, rfl, htx, hsm, hnw, below_then hB1 hB7⟩
    · obtain rfl : k = l.length := by omega
      go_wp2_with (fail)
      refine region_quiet' g0 (by kernel_rfl) (by kernel_rfl) ?_
      repeat (go_big_quiet_step (fail))
      refine wpQuiet_nil ?_
      rintro _ ⟨g1, rfl⟩
      clear y1 y2 y3 y4 y5 y6
      have hlk : (l.take l.length).length = l.length := by rw [List.length_take]; omega
      have hxk := Tx.take l.length (by omega) HV.out hc
      have h6k : ∀ t ∈ l.take l.length, t.2.length = 6 := fun t ht => (HL.out t (List.mem_of_mem_take ht)).1.1.1
      have hW2 : Below g1.w.heap.size g1.w (g1.w.alloc (.cells #[] 39)) := (Below.refl _ _).alloc (Nat.le_refl _) _
      have hown0 := own_empty g1.w
      have htk := (hxk.grow (below_then hB1 g1.h)).grow hW2
      go_wp2_with (at_builtin; refine wpList_append_tx rfl (.tmp 24) (.tmp 27) rfl g1.w.heap.size (.slice (some ⟨g1.w.heap.size, 0, none⟩) 0 0) 0 [] rfl hown0 (some ⟨b, o, none⟩) c (l.take l.length) (by rw [hlk]; rfl) htk h6k (fun h => by cases h) (by rw [hlk]; unfold maxLen; omega) (by rw [hlk]; omega) (by simp) ?_)
      intro v3 w3 hown3 hg3
      have hB3 : Below g1.w.heap.size g1.w w3 := Below.grown hW2 hg3 hW2.size (fun j hj => by simp [Value.ownBlock] at hj; omega)
      have hB13 := g1.h.trans (hB3.mono g1.h.size)
      try simp only [List.nil_append, Nat.zero_add] at hown3
      have HO3 := Lib.hid hown3
      have HB3 := Lib.hid hB13
      have hle3 : W1.heap.size ≤ g1.w.heap.size := g1.h.size
      have hle4 : g1.w.heap.size ≤ w3.heap.size := hB3.size
      clear hown3 hg3 hown0 htk hxk h6k hW2 hB3 hB13
      obtain ⟨q0, hq0⟩ : ∃ g : Grown w3, w3 = g.w := ⟨⟨w3, Below.refl _ _⟩, rfl⟩
      rw [hq0]
      go_wp2_with (fail)
      refine region_quiet' q0 (by kernel_rfl) (by kernel_rfl) ?_
      repeat (go_big_quiet_step (fail))
      refine wpQuiet_nil ?_
      rintro _ ⟨g5, rfl⟩
      have hrow5 := own_keptT HO3.out g5.h
      have z0 := heapT_cell (((HB3.out.trans (g5.h.mono HB3.out.size)).block w.heap.size hs1).trans HX1.out) (k := 0) rfl
      have z1 := heapT_cell (((HB3.out.trans (g5.h.mono HB3.out.size)).block w.heap.size hs1).trans HX1.out) (k := 1) rfl
      have z2 := heapT_cell (((HB3.out.trans (g5.h.mono HB3.out.size)).block w.heap.size hs1).trans HX1.out) (k := 2) rfl
      have z3 := heapT_cell (((HB3.out.trans (g5.h.mono HB3.out.size)).block w.heap.size hs1).trans HX1.out) (k := 3) rfl
      have z4 := heapT_cell (((HB3.out.trans (g5.h.mono HB3.out.size)).block w.heap.size hs1).trans HX1.out) (k := 4) rfl
      have z5 := heapT_cell (((HB3.out.trans (g5.h.mono HB3.out.size)).block w.heap.size hs1).trans HX1.out) (k := 5) rfl
      have z6 := heapT_cell (((HB3.out.trans (g5.h.mono HB3.out.size)).block w.heap.size hs1).trans HX1.out) (k := 6) rfl
      have hB5 := HB3.out.trans (g5.h.mono HB3.out.size)
      have hW5 : g1.w.heap.size ≤ g5.w.heap.size := Nat.le_trans hle4 g5.h.size
      go_wp2_with (at_builtin; refine wpList_append_own _ rfl (.tmp 55) (.tmp 57) 22 rfl g1.w.heap.size 39 i0 (.agg #[.int .i64 0, .int .u8 0, .int .u8 0, .int .u8 0, .int .u8 0, .int .u8 0, .int .u8 0]) 7 16 Try.underlying22 hi hz0 hz1 hz2 rfl (by decide) v3 l.length _ rfl (hrow5.alloc _) ⟨g5.w.heap.size, 0, none⟩ 1 1 [.int .i64 kx, .int .u8 x0, .int .u8 x1, .int .u8 x2, .int .u8 x3, .int .u8 x4, .int .u8 x5] rfl rfl (new_t _ _ _ _ _ _ _ _) (one_t _ _ _ _ _ _ _) (by unfold maxLen; omega) (by omega) (by simp only [World.size_alloc]; omega) ?_)
      intro v6 w6 hown6 hg6 _
      have hB6 : Below W1.heap.size W1 w6 := Below.grown (hB5.alloc hB5.size _) hg6 (by simp only [World.size_alloc]; exact Nat.le_succ_of_le hB5.size) (fun j hj => by have := (hrow5.lt j hj).1; omega)
      obtain ⟨gg6, cc6, rfl⟩ := ownsRow_succ hown6
      have hle6 : g1.w.heap.size ≤ w6.heap.size := by have := hg6.size; simp only [World.size_alloc] at this; omega
      have HO6 := Lib.hid hown6
      have HB6 := Lib.hid hB6
      clear hown6 hg6 hB6 hrow5 z0 z1 z2 z3 z4 z5 z6 hB5
      have hdr := Tx.drop l.length (by omega) HV.out hc
      have htd := hdr.grow (below_then hB1 HB6.out)
      have hld : (l.drop (l.length)).length = l.length - (l.length) := by rw [List.length_drop]
      have h6d : ∀ t ∈ l.drop (l.length), t.2.length = 6 := fun t ht => (HL.out t (List.mem_of_mem_drop ht)).1.1.1
      have i9 : ((l.length : Nat) : Int) ≤ l.length := by omega
      have i10 : (l.length : Int) ≤ c := by omega
      skip
      by_cases hck : c = l.length
      · subst hck
        rw [if_pos rfl] at htd
        go_wp2_with (at_builtin; refine wpList_append_tx rfl (.tmp 59) (.tmp 62) rfl g1.w.heap.size (.slice (some ⟨gg6, 0, none⟩) (l.length + 1) cc6) (l.length + 1) _ rfl HO6.out _ _ (l.drop (l.length)) (by rw [hld]; rw [Nat.sub_self]; rfl) (htd.cap _) h6d (fun h => by cases h) (by rw [hld]; unfold maxLen; omega) (by rw [hld]; omega) (by omega) ?_)
        intro v7 w7 hown7 hg7
        have hB7 : Below W1.heap.size W1 w7 := Below.grown HB6.out hg7 HB6.out.size (fun j hj => by have := (HO6.out.lt j hj).1; omega)
        have heq : ct (insT (kx, [x0, x1, x2, x3, x4, x5]) l) = ct (l.take l.length) ++ [.int .i64 kx, .int .u8 x0, .int .u8 x1, .int .u8 x2, .int .u8 x3, .int .u8 x4, .int .u8 x5] ++ ct (l.drop (l.length)) := by
          rw [ins_end HK.out]
          simp [ct, encT]
        have hlen : (insT (kx, [x0, x1, x2, x3, x4, x5]) l).length = l.length + 1 + (l.drop (l.length)).length := by
          rw [ins_end HK.out]
          simp only [List.length_append, List.length_cons, hlk]
          omega
        have hown8 : w7.ownsRow g1.w.heap.size 39 7 v7 (insT (kx, [x0, x1, x2, x3, x4, x5]) l).length (ct (insT (kx, [x0, x1, x2, x3, x4, x5]) l)) := by rw [heq, hlen, hld]; first | (simpa using hown7; done) | (simpa [show l.length - (l.length) = 0 by omega] using hown7)
        have h6i : ∀ t ∈ insT (kx, [x0, x1, x2, x3, x4, x5]) l, t.2.length = 6 := fun t ht => ins_len6 (x := (kx, [x0, x1, x2, x3, x4, x5])) rfl (fun t ht => (HL.out t ht).1.1.1) t ht
        have htx := Tx.own hown8 (by rw [hlen, hld]; unfold maxLen; omega) h6i
        have hcap := capok_own hown8
        have hnw : NewB w.heap.size v7 := ⟨hcap, fun j hj => by have := (hown8.lt j hj).1; omega⟩
        have hpos : 0 < (insT (kx, [x0, x1, x2, x3, x4, x5]) l).length := by rw [hlen]; omega
        have hsm := some_own hown8 hpos
        clear hown7 hown8 hg7
        go_wp2_with (fail)
        go_ret
        exact ⟨_, rfl, htx, hsm, hnw, below_then hB1 hB7⟩
      · rw [if_neg hck] at htd
        go_wp2_with (at_builtin; refine wpList_append_tx rfl (.tmp 59) (.tmp 62) rfl g1.w.heap.size (.slice (some ⟨gg6, 0, none⟩) (l.length + 1) cc6) (l.length + 1) _ rfl HO6.out _ _ (l.drop (l.length)) (by rw [hld]; rw [Nat.sub_self]; rfl) (htd.cap _) h6d (fun h => by cases h) (by rw [hld]; unfold maxLen; omega) (by rw [hld]; omega) (by omega) ?_)
        intro v7 w7 hown7 hg7
        have hB7 : Below W1.heap.size W1 w7 := Below.grown HB6.out hg7 HB6.out.size (fun j hj => by have := (HO6.out.lt j hj).1; omega)
        have heq : ct (insT (kx, [x0, x1, x2, x3, x4, x5]) l) = ct (l.take l.length) ++ [.int .i64 kx, .int .u8 x0, .int .u8 x1, .int .u8 x2, .int .u8 x3, .int .u8 x4, .int .u8 x5] ++ ct (l.drop (l.length)) := by
          rw [ins_end HK.out]
          simp [ct, encT]
        have hlen : (insT (kx, [x0, x1, x2, x3, x4, x5]) l).length = l.length + 1 + (l.drop (l.length)).length := by
          rw [ins_end HK.out]
          simp only [List.length_append, List.length_cons, hlk]
          omega
        have hown8 : w7.ownsRow g1.w.heap.size 39 7 v7 (insT (kx, [x0, x1, x2, x3, x4, x5]) l).length (ct (insT (kx, [x0, x1, x2, x3, x4, x5]) l)) := by rw [heq, hlen, hld]; first | (simpa using hown7; done) | (simpa [show l.length - (l.length) = 0 by omega] using hown7)
        have h6i : ∀ t ∈ insT (kx, [x0, x1, x2, x3, x4, x5]) l, t.2.length = 6 := fun t ht => ins_len6 (x := (kx, [x0, x1, x2, x3, x4, x5])) rfl (fun t ht => (HL.out t ht).1.1.1) t ht
        have htx := Tx.own hown8 (by rw [hlen, hld]; unfold maxLen; omega) h6i
        have hcap := capok_own hown8
        have hnw : NewB w.heap.size v7 := ⟨hcap, fun j hj => by have := (hown8.lt j hj).1; omega⟩
        have hpos : 0 < (insT (kx, [x0, x1, x2, x3, x4, x5]) l).length := by rw [hlen]; omega
        have hsm := some_own hown8 hpos
        clear hown7 hown8 hg7
        go_wp2_with (fail)
        go_ret
        exact ⟨_, rfl, htx, hsm, hnw, below_then hB1 hB7⟩
end Go.Proofs.Ytcamjoddaeefdaa
