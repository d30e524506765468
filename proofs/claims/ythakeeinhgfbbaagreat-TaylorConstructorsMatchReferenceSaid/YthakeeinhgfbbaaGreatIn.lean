/-
  The reference's insert.
  The reference's Valid.
  The reference's Made: a valid polynomial out of whatever terms.
  law05's two polynomials.
  The argument of the laws over polynomials.
-/
import Derived.Test.YthakeeinhgfbbaaGreatPk5
import Derived.Deep.Slices
import Derived.Deep.Fields
import Derived.ChangeSame
import Derived.OpenShut
namespace Go.Proofs.YthakeeinhgfbbaaGreat
open Go.ChangeShapes Go.WideShapes Go.ChangeAt Go.RowKit
set_option linter.unusedVariables false
set_option linter.unusedSimpArgs false
set_option maxRecDepth 100000

attribute [local irreducible] Calls
theorem own_empty (W : World) : (W.alloc (.cells #[] 63)).ownsRow W.heap.size 63 7 (.slice (some ⟨W.heap.size, 0, none⟩) 0 0) 0 [] :=
  ⟨rfl, .inr ⟨W.heap.size, 0, #[], rfl, Nat.le_refl _, World.alloc_heap_new W _, Nat.le_refl _, Nat.zero_le _, rfl, rfl⟩⟩
theorem Tx.take {w : World} {b o n c : Nat} {l : List Tm} (k : Nat) (hk : k ≤ l.length) (h : Tx w (.slice (some ⟨b, o, none⟩) n c) l) (hc : n ≤ c) : Tx w (.slice (some ⟨b, o, none⟩) (l.take k).length c) (l.take k) := by
  obtain ⟨h1, p, c', e, h2⟩ := h
  simp only [Value.slice.injEq] at e
  refine ⟨by rw [List.length_take]; omega, _, _, rfl, fun i x hx => ?_⟩
  rw [List.getElem?_take] at hx
  split at hx
  · obtain ⟨b', o', hp, h3, h4⟩ := h2 i x hx
    exact ⟨b', o', e.1.trans hp, h3, h4⟩
  · cases hx
theorem Tx.drop {w : World} {b o n c : Nat} {l : List Tm} (k : Nat) (hk : k ≤ l.length) (h : Tx w (.slice (some ⟨b, o, none⟩) n c) l) (hc : n ≤ c) : Tx w (.slice (if c = k then some ⟨b, o, none⟩ else some ⟨b, o + k * 7, none⟩) (l.drop k).length (c - k)) (l.drop k) := by
  obtain ⟨h1, p, c', e, h2⟩ := h
  simp only [Value.slice.injEq] at e
  obtain ⟨e1, e2, e3⟩ := e
  refine ⟨by rw [List.length_drop]; omega, _, _, rfl, fun i y hy => ?_⟩
  rw [List.getElem?_drop] at hy
  have hl := (List.getElem?_eq_some_iff.1 hy).1
  rw [if_neg (by omega)]
  obtain ⟨b', o', hp, h3, h4⟩ := h2 (k + i) y hy
  rw [hp] at e1
  simp only [Option.some.injEq, Addr.mk.injEq, and_true] at e1
  obtain ⟨rfl, rfl⟩ := e1
  refine ⟨_, _, rfl, h3, fun j u hu => ?_⟩
  have := h4 j u hu
  rw [show o + k * 7 + i * 7 + j = o + (k + i) * 7 + j by omega]
  exact this
theorem Tx.cap {w : World} {p : Option Addr} {n c : Nat} {l : List Tm} (h : Tx w (.slice p n c) l) (c' : Nat) : Tx w (.slice p n c') l := by
  obtain ⟨h1, q, d, e, h2⟩ := h
  simp only [Value.slice.injEq] at e
  exact ⟨h1, q, c', by rw [e.1, e.2.1], h2⟩
theorem ins_len6 {x : Tm} (hx : x.2.length = 6) : ∀ {l : List Tm}, (∀ t ∈ l, t.2.length = 6) → ∀ t ∈ insT x l, t.2.length = 6
  | [], _, t, ht => by simp [insT] at ht; subst ht; exact hx
  | q :: r, h, t, ht => by
    unfold insT at ht
    split at ht
    · rcases List.mem_cons.1 ht with rfl | ht
      · exact h _ (by simp)
      · exact ins_len6 hx (fun t ht => h t (by simp [ht])) t ht
    · split at ht
      · rcases List.mem_cons.1 ht with rfl | ht
        · exact hx
        · exact h t (by simp [ht])
      · rcases List.mem_cons.1 ht with rfl | ht
        · exact hx
        · exact h t ht
theorem ins_skip {x a : Tm} {l : List Tm} {k : Nat} (h : insT x l = l.take k ++ insT x (l.drop k)) (ha : l[k]? = some a) (hc : cmpE a.2 x.2 < 0) : insT x l = l.take (k + 1) ++ insT x (l.drop (k + 1)) := by
  have hd : l.drop k = a :: l.drop (k + 1) := by
    obtain ⟨hk, e⟩ := List.getElem?_eq_some_iff.1 ha
    rw [List.drop_eq_getElem_cons hk, e]
  have e1 : insT x (a :: l.drop (k + 1)) = a :: insT x (l.drop (k + 1)) := by
    conv => lhs; unfold insT
    rw [if_pos hc]
  rw [h, hd, e1, List.take_add_one, ha]
  simp
theorem ins_hit {x a : Tm} {l : List Tm} {k : Nat} (h : insT x l = l.take k ++ insT x (l.drop k)) (ha : l[k]? = some a) (hc : cmpE a.2 x.2 = 0) : insT x l = l.take k ++ (x.1 + a.1, x.2) :: l.drop (k + 1) := by
  have hd : l.drop k = a :: l.drop (k + 1) := by
    obtain ⟨hk, e⟩ := List.getElem?_eq_some_iff.1 ha
    rw [List.drop_eq_getElem_cons hk, e]
  rw [h, hd]
  congr 1
  conv => lhs; unfold insT
  rw [if_neg (by omega), if_pos hc]
theorem ins_here {x a : Tm} {l : List Tm} {k : Nat} (h : insT x l = l.take k ++ insT x (l.drop k)) (ha : l[k]? = some a) (hc : 0 < cmpE a.2 x.2) : insT x l = l.take k ++ x :: l.drop k := by
  have hd : l.drop k = a :: l.drop (k + 1) := by
    obtain ⟨hk, e⟩ := List.getElem?_eq_some_iff.1 ha
    rw [List.drop_eq_getElem_cons hk, e]
  rw [h, hd]
  congr 1
  conv => lhs; unfold insT
  rw [if_neg (by omega), if_neg (by omega)]
theorem ins_end {x : Tm} {l : List Tm} (h : insT x l = l.take l.length ++ insT x (l.drop l.length)) : insT x l = l.take l.length ++ x :: l.drop l.length := by
  rw [h, List.drop_length]
  rfl
def SomeS (v : Value) : Prop := ∃ b o n c, v = .slice (some ⟨b, o, none⟩) n c ∧ n ≤ c
theorem some_own {W : World} {B n : Nat} {v : Value} {xs : List Value} (h : W.ownsRow B 63 7 v n xs) (hn : 0 < n) : SomeS v := by
  rcases h.2 with ⟨_, h0⟩ | ⟨g, cap, cur, rfl, _, _, hle, _⟩
  · omega
  · exact ⟨g, 0, n, cap, rfl, hle⟩
set_option maxHeartbeats 16000000 in
theorem insert_ok (b o c : Nat) (l : List Tm) (x : Tm) (w : World) (hv : Tx w (.slice (some ⟨b, o, none⟩) l.length c) l) (hc : l.length ≤ c) (hl : ∀ t ∈ l, TV t ∧ Small62 t) (hx : TV x ∧ Small62 x) (hsm : l.length ≤ 1000000) :
    Calls Tryz.prog 100 #[.slice (some ⟨b, o, none⟩) l.length c, valT x] w fun e w' => ∃ r, e = .returned r ∧ Tx w' r (insT x l) ∧ SomeS r ∧ NewB w.heap.size r ∧ Below w.heap.size w w' := by
  obtain ⟨i0, hi, hz0, hz1, hz2⟩ := info_parts info_t
  obtain ⟨kx, x0, x1, x2, x3, x4, x5, rfl⟩ := six_at hx.1
  rw [show valT (kx, [x0, x1, x2, x3, x4, x5]) = .agg #[.int .i64 kx, .int .u8 x0, .int .u8 x1, .int .u8 x2, .int .u8 x3, .int .u8 x4, .int .u8 x5] from rfl]
  have HV := Lib.hid hv
  have HL := Lib.hid hl
  have HXV := Lib.hid hx
  have hB1 : Below w.heap.size w (w.alloc (.cells #[.int .i64 kx, .int .u8 x0, .int .u8 x1, .int .u8 x2, .int .u8 x3, .int .u8 x4, .int .u8 x5] 63)) := (Below.refl _ _).alloc (Nat.le_refl _) _
  have hX1 : (w.alloc (.cells #[.int .i64 kx, .int .u8 x0, .int .u8 x1, .int .u8 x2, .int .u8 x3, .int .u8 x4, .int .u8 x5] 63)).heap[w.heap.size]? = some (.cells #[.int .i64 kx, .int .u8 x0, .int .u8 x1, .int .u8 x2, .int .u8 x3, .int .u8 x4, .int .u8 x5] 63 (0, 0)) := World.alloc_heap_new w _
  clear hv hl hx
  go_enter Tryz.func100, Tryz.ntmps100
  go_wp2_with (fail)
  obtain ⟨W1, hW1⟩ : ∃ W, w.alloc (.cells #[.int .i64 kx, .int .u8 x0, .int .u8 x1, .int .u8 x2, .int .u8 x3, .int .u8 x4, .int .u8 x5] 63) = W := ⟨_, rfl⟩
  have hs1 : w.heap.size < W1.heap.size := by rw [← hW1]; simp
  rw [hW1] at hB1 hX1
  rw [hW1]
  clear hW1
  have HX1 := Lib.hid hX1
  go_loopw [5] (fun i wr => ∃ k : Nat, i = .int .i64 k ∧ k ≤ l.length ∧ Hid (insT (kx, [x0, x1, x2, x3, x4, x5]) l = l.take k ++ insT (kx, [x0, x1, x2, x3, x4, x5]) (l.drop k)) ∧ ∃ g : Grown W1, wr = g.w) (fun i _ => l.length - (intOf i).toNat)
  case atStart => exact ⟨0, rfl, Nat.zero_le _, Lib.hid (by simp), ⟨W1, Below.refl _ _⟩, rfl⟩
  case round =>
    obtain ⟨k, rfl, hk, HK, g0, rfl⟩ := hrel
    have xb := fun g : Grown W1 => g.h.block w.heap.size hs1
    have xc := fun (g : Grown W1) (j : Nat) (u : Value) (hj : (#[.int .i64 kx, .int .u8 x0, .int .u8 x1, .int .u8 x2, .int .u8 x3, .int .u8 x4, .int .u8 x5] : Array Value)[j]? = some u) => heapT_cell ((xb g).trans HX1.out) hj
    have y1 := fun g => xc g 1 _ rfl
    have y2 := fun g => xc g 2 _ rfl
    have y3 := fun g => xc g 3 _ rfl
    have y4 := fun g => xc g 4 _ rfl
    have y5 := fun g => xc g 5 _ rfl
    have y6 := fun g => xc g 6 _ rfl
    clear xb xc
    by_cases hlt : k < l.length
    · have i1 : (k : Int) < l.length := by omega
      obtain ⟨a, ha⟩ : ∃ a, l[k]? = some a := ⟨_, List.getElem?_eq_getElem hlt⟩
      have hav := HL.out a (List.mem_of_getElem? ha)
      obtain ⟨ka, a0, a1, a2, a3, a4, a5, rfl⟩ := six_at hav.1
      obtain ⟨b', o', hp, hb, rda⟩ := HV.out.rd7 ha
      simp only [Option.some.injEq, Addr.mk.injEq, and_true] at hp
      obtain ⟨rfl, rfl⟩ := hp
      have fa := fun g : Grown W1 => rda ⟨g.w, below_then hB1 g.h⟩
      dsimp only at fa
      have fa1 := fun g => (fa g).2.1
      have fa2 := fun g => (fa g).2.2.1
      have fa3 := fun g => (fa g).2.2.2.1
      have fa4 := fun g => (fa g).2.2.2.2.1
      have fa5 := fun g => (fa g).2.2.2.2.2.1
      have fa6 := fun g => (fa g).2.2.2.2.2.2
      have HA := Lib.hid ha
      have HAV := Lib.hid hav
      have HRD := Lib.hid rda
      have HO := Lib.hid (fun w => r5order [a0, a1, a2, a3, a4, a5] [x0, x1, x2, x3, x4, x5] w hav.1.1 HXV.out.1.1)
      rw [show valE [a0, a1, a2, a3, a4, a5] = .agg #[.int .u8 a0, .int .u8 a1, .int .u8 a2, .int .u8 a3, .int .u8 a4, .int .u8 a5] from rfl, show valE [x0, x1, x2, x3, x4, x5] = .agg #[.int .u8 x0, .int .u8 x1, .int .u8 x2, .int .u8 x3, .int .u8 x4, .int .u8 x5] from rfl] at HO
      obtain ⟨C, hC⟩ : ∃ C, cmpE [a0, a1, a2, a3, a4, a5] [x0, x1, x2, x3, x4, x5] = C := ⟨_, rfl⟩
      rw [hC] at HO
      have HC := Lib.hid hC
      clear fa ha hav rda hC
      by_cases hc0 : C < 0
      · have HN := Lib.hid (ins_skip HK.out HA.out (by dsimp only; rw [HC.out]; exact hc0))
        go_wp2_with (fail)
        refine region_quiet' g0 (by kernel_rfl) (by kernel_rfl) ?_
        repeat (go_big_quiet_step (first | exact qc (HO.out _)))
        refine wpQuiet_nil ?_
        rintro _ ⟨g1, rfl⟩
        go_wp2_with (fail)
        go_roundw
        case rel => exact ⟨k + 1, by go_num, by omega, HN, g1, rfl⟩
        case measure => simp [intOf]; omega
      · have hc1 : 0 ≤ C := by omega
        go_wp2_with (fail)
        refine region_quiet' g0 (by kernel_rfl) (by kernel_rfl) ?_
        repeat (go_big_quiet_step (first | exact qc (HO.out _)))
        refine wpQuiet_nil ?_
        rintro _ ⟨g1, rfl⟩
        clear fa1 fa2 fa3 fa4 fa5 fa6 y1 y2 y3 y4 y5 y6
        have rda := HRD.out
        have hlk : (l.take k).length = k := by rw [List.length_take]; omega
        have hxk := Tx.take k (by omega) HV.out hc
        have h6k : ∀ t ∈ l.take k, t.2.length = 6 := fun t ht => (HL.out t (List.mem_of_mem_take ht)).1.1.1
        have hW2 : Below g1.w.heap.size g1.w (g1.w.alloc (.cells #[] 63)) := (Below.refl _ _).alloc (Nat.le_refl _) _
        have hown0 := own_empty g1.w
        have htk := (hxk.grow (below_then hB1 g1.h)).grow hW2
        go_wp2_with (at_builtin; refine wpList_append_tx rfl (.tmp 24) (.tmp 27) rfl g1.w.heap.size (.slice (some ⟨g1.w.heap.size, 0, none⟩) 0 0) 0 [] rfl hown0 (some ⟨b, o, none⟩) c (l.take k) (by rw [hlk]; rfl) htk h6k (fun h => by cases h) (by rw [hlk]; unfold maxLen; omega) (by rw [hlk]; omega) (by simp) ?_)
        intro v3 w3 hown3 hg3
        have hB3 : Below g1.w.heap.size g1.w w3 := Below.grown hW2 hg3 hW2.size (fun j hj => by simp [Value.ownBlock] at hj; omega)
        have hB13 := g1.h.trans (hB3.mono g1.h.size)
        try simp only [List.nil_append, Nat.zero_add] at hown3
        have HO3 := Lib.hid hown3
        have HB3 := Lib.hid hB13
        have hle3 : W1.heap.size ≤ g1.w.heap.size := g1.h.size
        have hle4 : g1.w.heap.size ≤ w3.heap.size := hB3.size
        clear hown3 hg3 hown0 htk hxk h6k hW2 hB3 hB13
        by_cases hce : C = 0
        · subst hce
          obtain ⟨q0, hq0⟩ : ∃ g : Grown w3, w3 = g.w := ⟨⟨w3, Below.refl _ _⟩, rfl⟩
          have fb := fun g : Grown w3 => rda ⟨g.w, below_then hB1 (HB3.out.trans (g.h.mono HB3.out.size))⟩
          have fb0 := fun g => (fb g).1
          have fb1 := fun g => (fb g).2.1
          have fb2 := fun g => (fb g).2.2.1
          have fb3 := fun g => (fb g).2.2.2.1
          have fb4 := fun g => (fb g).2.2.2.2.1
          have fb5 := fun g => (fb g).2.2.2.2.2.1
          have fb6 := fun g => (fb g).2.2.2.2.2.2
          have xb := fun g : Grown w3 => (HB3.out.trans (g.h.mono HB3.out.size)).block w.heap.size (by omega)
          have xc := fun (g : Grown w3) (j : Nat) (u : Value) (hj : (#[.int .i64 kx, .int .u8 x0, .int .u8 x1, .int .u8 x2, .int .u8 x3, .int .u8 x4, .int .u8 x5] : Array Value)[j]? = some u) => heapT_cell ((xb g).trans HX1.out) hj
          have y0 := fun g => xc g 0 _ rfl
          have y1 := fun g => xc g 1 _ rfl
          have y2 := fun g => xc g 2 _ rfl
          have y3 := fun g => xc g 3 _ rfl
          have y4 := fun g => xc g 4 _ rfl
          have y5 := fun g => xc g 5 _ rfl
          have y6 := fun g => xc g 6 _ rfl
          clear fb xb xc
          rw [hq0]
          go_wp2_with (fail)
          refine region_quiet' q0 (by kernel_rfl) (by kernel_rfl) ?_
          repeat (go_big_quiet_step (first | exact qc (HO.out _)))
          refine wpQuiet_nil ?_
          rintro _ ⟨g5, rfl⟩
          have hB5a := HB3.out.trans (g5.h.mono HB3.out.size)
          have hX5 := (hB5a.block w.heap.size hs1).trans HX1.out
          have e0 := heapT_cell hX5 (k := 0) rfl
          have fz : g5.w.frozen? ⟨w.heap.size, 0, none⟩ = false := by simp [World.frozen?, hX5]
          have fk := (rda ⟨g5.w, below_then hB1 hB5a⟩).1
          dsimp only at fk
          have hs62 := HAV.out.2
          have hx62 := HXV.out.2
          unfold Small62 at hs62 hx62
          dsimp only at hs62 hx62
          have Wk : IntKind.i64.wrap (kx + ka) = kx + ka := wrap_i64 _ (by omega) (by omega)
          have HR5 := Lib.hid (own_keptT HO3.out g5.h)
          have HX5 := Lib.hid hX5
          have HB5 := Lib.hid hB5a
          have hle5 : g1.w.heap.size ≤ g5.w.heap.size := Nat.le_trans hle4 g5.h.size
          clear hX5 hB5a
          go_wp2_with (fail)
          go_region
          obtain ⟨W5, hW5e⟩ : ∃ W, (g5.w.setCell ⟨w.heap.size, 0, none⟩ (.int .i64 (kx + ka))).drew = W := ⟨_, rfl⟩
          have hrow5' : W5.ownsRow g1.w.heap.size 63 7 v3 k (ct (l.take k)) := by
            rw [← hW5e]
            refine own_keptT (HR5.out.kept (grownBy_setT _ ⟨w.heap.size, 0, none⟩ _) ?_) ((Below.refl _ _).drew)
            refine .inr fun e => ?_
            have := (HR5.out.lt w.heap.size (by simpa using e)).1
            omega
          have hX6 : W5.heap[w.heap.size]? = some (.cells #[.int .i64 (kx + ka), .int .u8 x0, .int .u8 x1, .int .u8 x2, .int .u8 x3, .int .u8 x4, .int .u8 x5] 63 (0, 0)) := by
            rw [← hW5e]
            exact cellsT_set (o := 0) (u := .int .i64 (kx + ka)) (W := g5.w) HX5.out
          have hB5b : Below w.heap.size w W5 := by
            rw [← hW5e]
            exact ((below_then hB1 HB5.out).setCell (p := ⟨w.heap.size, 0, none⟩) (Nat.le_refl _) _).drew
          have hsz5 : g1.w.heap.size ≤ W5.heap.size := by rw [← hW5e]; simpa using hle5
          have hk1c : ((k + 1 : Nat) : Int) = (k : Int) + 1 := by omega
          rw [hW5e]
          clear hW5e e0 fz fk Wk
          have hrow5 := hrow5'
          have z0 := heapT_cell hX6 (k := 0) rfl
          have z1 := heapT_cell hX6 (k := 1) rfl
          have z2 := heapT_cell hX6 (k := 2) rfl
          have z3 := heapT_cell hX6 (k := 3) rfl
          have z4 := heapT_cell hX6 (k := 4) rfl
          have z5 := heapT_cell hX6 (k := 5) rfl
          have z6 := heapT_cell hX6 (k := 6) rfl
          have hB5 := hB5b
          have hW5 : g1.w.heap.size ≤ W5.heap.size := hsz5
          go_wp2_with (at_builtin; refine wpList_append_own _ rfl (.tmp 55) (.tmp 57) 22 rfl g1.w.heap.size 63 i0 (.agg #[.int .i64 0, .int .u8 0, .int .u8 0, .int .u8 0, .int .u8 0, .int .u8 0, .int .u8 0]) 7 16 Tryz.underlying22 hi hz0 hz1 hz2 rfl (by decide) v3 k _ rfl (hrow5.alloc _) ⟨W5.heap.size, 0, none⟩ 1 1 [.int .i64 (kx + ka), .int .u8 x0, .int .u8 x1, .int .u8 x2, .int .u8 x3, .int .u8 x4, .int .u8 x5] rfl rfl (new_t _ _ _ _ _ _ _ _) (one_t _ _ _ _ _ _ _) (by unfold maxLen; omega) (by omega) (by simp only [World.size_alloc]; omega) ?_)
          intro v6 w6 hown6 hg6 _
          have hB6 : Below w.heap.size w w6 := Below.grown (hB5.alloc hB5.size _) hg6 (by simp only [World.size_alloc]; exact Nat.le_succ_of_le hB5.size) (fun j hj => by have := (hrow5.lt j hj).1; omega)
          obtain ⟨gg6, cc6, rfl⟩ := ownsRow_succ hown6
          have hle6 : g1.w.heap.size ≤ w6.heap.size := by have := hg6.size; simp only [World.size_alloc] at this; omega
          have HO6 := Lib.hid hown6
          have HB6 := Lib.hid hB6
          clear hown6 hg6 hB6 hrow5 z0 z1 z2 z3 z4 z5 z6 hB5
          have hdr := Tx.drop (k + 1) (by omega) HV.out hc
          have htd := hdr.grow (id HB6.out)
          have hld : (l.drop ((k + 1))).length = l.length - ((k + 1)) := by rw [List.length_drop]
          have h6d : ∀ t ∈ l.drop ((k + 1)), t.2.length = 6 := fun t ht => (HL.out t (List.mem_of_mem_drop ht)).1.1.1
          have i9 : (((k + 1) : Nat) : Int) ≤ l.length := by omega
          have i10 : (l.length : Int) ≤ c := by omega
          rw [hk1c] at i9
          by_cases hck : c = (k + 1)
          · subst hck
            rw [if_pos rfl] at htd
            go_wp2_with (at_builtin; refine wpList_append_tx rfl (.tmp 59) (.tmp 62) rfl g1.w.heap.size (.slice (some ⟨gg6, 0, none⟩) (k + 1) cc6) (k + 1) _ rfl HO6.out _ _ (l.drop ((k + 1))) (by rw [hld]; first | rfl | (rw [Nat.sub_eq_zero_of_le (by omega)]; rfl)) (htd.cap _) h6d (fun h => by cases h) (by rw [hld]; unfold maxLen; omega) (by rw [hld]; omega) (by omega) ?_)
            intro v7 w7 hown7 hg7
            have hB7 : Below w.heap.size w w7 := Below.grown HB6.out hg7 HB6.out.size (fun j hj => by have := (HO6.out.lt j hj).1; omega)
            have heq : ct (insT (kx, [x0, x1, x2, x3, x4, x5]) l) = ct (l.take k) ++ [.int .i64 (kx + ka), .int .u8 x0, .int .u8 x1, .int .u8 x2, .int .u8 x3, .int .u8 x4, .int .u8 x5] ++ ct (l.drop ((k + 1))) := by
              rw [ins_hit HK.out HA.out (by dsimp only; rw [HC.out])]
              simp [ct, encT]
            have hlen : (insT (kx, [x0, x1, x2, x3, x4, x5]) l).length = k + 1 + (l.drop ((k + 1))).length := by
              rw [ins_hit HK.out HA.out (by dsimp only; rw [HC.out])]
              simp only [List.length_append, List.length_cons, hlk]
              omega
            have hown8 : w7.ownsRow g1.w.heap.size 63 7 v7 (insT (kx, [x0, x1, x2, x3, x4, x5]) l).length (ct (insT (kx, [x0, x1, x2, x3, x4, x5]) l)) := by rw [heq, hlen, hld]; first | (simpa using hown7; done) | (simpa [show l.length - ((k + 1)) = 0 by omega] using hown7)
            have h6i : ∀ t ∈ insT (kx, [x0, x1, x2, x3, x4, x5]) l, t.2.length = 6 := fun t ht => ins_len6 (x := (kx, [x0, x1, x2, x3, x4, x5])) rfl (fun t ht => (HL.out t ht).1.1.1) t ht
            have htx := Tx.own hown8 (by rw [hlen, hld]; unfold maxLen; omega) h6i
            have hcap := capok_own hown8
            have hnw : NewB w.heap.size v7 := ⟨hcap, fun j hj => by have := (hown8.lt j hj).1; omega⟩
            have hpos : 0 < (insT (kx, [x0, x1, x2, x3, x4, x5]) l).length := by rw [hlen]; omega
            have hsm := some_own hown8 hpos
            clear hown7 hown8 hg7
            go_wp2_with (fail)
            go_ret
            exact ⟨_, rfl, htx, hsm, hnw, id hB7⟩
          · rw [if_neg hck] at htd
            go_wp2_with (at_builtin; refine wpList_append_tx rfl (.tmp 59) (.tmp 62) rfl g1.w.heap.size (.slice (some ⟨gg6, 0, none⟩) (k + 1) cc6) (k + 1) _ rfl HO6.out _ _ (l.drop ((k + 1))) (by rw [hld]; first | rfl | (rw [Nat.sub_eq_zero_of_le (by omega)]; rfl)) (htd.cap _) h6d (fun h => by cases h) (by rw [hld]; unfold maxLen; omega) (by rw [hld]; omega) (by omega) ?_)
            intro v7 w7 hown7 hg7
            have hB7 : Below w.heap.size w w7 := Below.grown HB6.out hg7 HB6.out.size (fun j hj => by have := (HO6.out.lt j hj).1; omega)
            have heq : ct (insT (kx, [x0, x1, x2, x3, x4, x5]) l) = ct (l.take k) ++ [.int .i64 (kx + ka), .int .u8 x0, .int .u8 x1, .int .u8 x2, .int .u8 x3, .int .u8 x4, .int .u8 x5] ++ ct (l.drop ((k + 1))) := by
              rw [ins_hit HK.out HA.out (by dsimp only; rw [HC.out])]
              simp [ct, encT]
            have hlen : (insT (kx, [x0, x1, x2, x3, x4, x5]) l).length = k + 1 + (l.drop ((k + 1))).length := by
              rw [ins_hit HK.out HA.out (by dsimp only; rw [HC.out])]
              simp only [List.length_append, List.length_cons, hlk]
              omega
            have hown8 : w7.ownsRow g1.w.heap.size 63 7 v7 (insT (kx, [x0, x1, x2, x3, x4, x5]) l).length (ct (insT (kx, [x0, x1, x2, x3, x4, x5]) l)) := by rw [heq, hlen, hld]; first | (simpa using hown7; done) | (simpa [show l.length - ((k + 1)) = 0 by omega] using hown7)
            have h6i : ∀ t ∈ insT (kx, [x0, x1, x2, x3, x4, x5]) l, t.2.length = 6 := fun t ht => ins_len6 (x := (kx, [x0, x1, x2, x3, x4, x5])) rfl (fun t ht => (HL.out t ht).1.1.1) t ht
            have htx := Tx.own hown8 (by rw [hlen, hld]; unfold maxLen; omega) h6i
            have hcap := capok_own hown8
            have hnw : NewB w.heap.size v7 := ⟨hcap, fun j hj => by have := (hown8.lt j hj).1; omega⟩
            have hpos : 0 < (insT (kx, [x0, x1, x2, x3, x4, x5]) l).length := by rw [hlen]; omega
            have hsm := some_own hown8 hpos
            clear hown7 hown8 hg7
            go_wp2_with (fail)
            go_ret
            exact ⟨_, rfl, htx, hsm, hnw, id hB7⟩
        · have hcp : 0 < C := by omega
          have hcd : (C == 0) = false := by simpa using hce
          obtain ⟨q0, hq0⟩ : ∃ g : Grown w3, w3 = g.w := ⟨⟨w3, Below.refl _ _⟩, rfl⟩
          have fb := fun g : Grown w3 => rda ⟨g.w, below_then hB1 (HB3.out.trans (g.h.mono HB3.out.size))⟩
          have fb0 := fun g => (fb g).1
          have fb1 := fun g => (fb g).2.1
          have fb2 := fun g => (fb g).2.2.1
          have fb3 := fun g => (fb g).2.2.2.1
          have fb4 := fun g => (fb g).2.2.2.2.1
          have fb5 := fun g => (fb g).2.2.2.2.2.1
          have fb6 := fun g => (fb g).2.2.2.2.2.2
          have xb := fun g : Grown w3 => (HB3.out.trans (g.h.mono HB3.out.size)).block w.heap.size (by omega)
          have xc := fun (g : Grown w3) (j : Nat) (u : Value) (hj : (#[.int .i64 kx, .int .u8 x0, .int .u8 x1, .int .u8 x2, .int .u8 x3, .int .u8 x4, .int .u8 x5] : Array Value)[j]? = some u) => heapT_cell ((xb g).trans HX1.out) hj
          have y0 := fun g => xc g 0 _ rfl
          have y1 := fun g => xc g 1 _ rfl
          have y2 := fun g => xc g 2 _ rfl
          have y3 := fun g => xc g 3 _ rfl
          have y4 := fun g => xc g 4 _ rfl
          have y5 := fun g => xc g 5 _ rfl
          have y6 := fun g => xc g 6 _ rfl
          clear fb xb xc
          rw [hq0]
          go_wp2_with (fail)
          refine region_quiet' q0 (by kernel_rfl) (by kernel_rfl) ?_
          repeat (go_big_quiet_step (first | exact qc (HO.out _)))
          refine wpQuiet_nil ?_
          rintro _ ⟨g5, rfl⟩
          have hrow5 := own_keptT HO3.out g5.h
          have z0 := heapT_cell (((HB3.out.trans (g5.h.mono HB3.out.size)).block w.heap.size hs1).trans HX1.out) (k := 0) rfl
          have z1 := heapT_cell (((HB3.out.trans (g5.h.mono HB3.out.size)).block w.heap.size hs1).trans HX1.out) (k := 1) rfl
          have z2 := heapT_cell (((HB3.out.trans (g5.h.mono HB3.out.size)).block w.heap.size hs1).trans HX1.out) (k := 2) rfl
          have z3 := heapT_cell (((HB3.out.trans (g5.h.mono HB3.out.size)).block w.heap.size hs1).trans HX1.out) (k := 3) rfl
          have z4 := heapT_cell (((HB3.out.trans (g5.h.mono HB3.out.size)).block w.heap.size hs1).trans HX1.out) (k := 4) rfl
          have z5 := heapT_cell (((HB3.out.trans (g5.h.mono HB3.out.size)).block w.heap.size hs1).trans HX1.out) (k := 5) rfl
          have z6 := heapT_cell (((HB3.out.trans (g5.h.mono HB3.out.size)).block w.heap.size hs1).trans HX1.out) (k := 6) rfl
          have hB5 := HB3.out.trans (g5.h.mono HB3.out.size)
          have hW5 : g1.w.heap.size ≤ g5.w.heap.size := Nat.le_trans hle4 g5.h.size
          go_wp2_with (at_builtin; refine wpList_append_own _ rfl (.tmp 55) (.tmp 57) 22 rfl g1.w.heap.size 63 i0 (.agg #[.int .i64 0, .int .u8 0, .int .u8 0, .int .u8 0, .int .u8 0, .int .u8 0, .int .u8 0]) 7 16 Tryz.underlying22 hi hz0 hz1 hz2 rfl (by decide) v3 k _ rfl (hrow5.alloc _) ⟨g5.w.heap.size, 0, none⟩ 1 1 [.int .i64 kx, .int .u8 x0, .int .u8 x1, .int .u8 x2, .int .u8 x3, .int .u8 x4, .int .u8 x5] rfl rfl (new_t _ _ _ _ _ _ _ _) (one_t _ _ _ _ _ _ _) (by unfold maxLen; omega) (by omega) (by simp only [World.size_alloc]; omega) ?_)
          intro v6 w6 hown6 hg6 _
          have hB6 : Below W1.heap.size W1 w6 := Below.grown (hB5.alloc hB5.size _) hg6 (by simp only [World.size_alloc]; exact Nat.le_succ_of_le hB5.size) (fun j hj => by have := (hrow5.lt j hj).1; omega)
          obtain ⟨gg6, cc6, rfl⟩ := ownsRow_succ hown6
          have hle6 : g1.w.heap.size ≤ w6.heap.size := by have := hg6.size; simp only [World.size_alloc] at this; omega
          have HO6 := Lib.hid hown6
          have HB6 := Lib.hid hB6
          clear hown6 hg6 hB6 hrow5 z0 z1 z2 z3 z4 z5 z6 hB5
          have hdr := Tx.drop k (by omega) HV.out hc
          have htd := hdr.grow (below_then hB1 HB6.out)
          have hld : (l.drop (k)).length = l.length - (k) := by rw [List.length_drop]
          have h6d : ∀ t ∈ l.drop (k), t.2.length = 6 := fun t ht => (HL.out t (List.mem_of_mem_drop ht)).1.1.1
          have i9 : ((k : Nat) : Int) ≤ l.length := by omega
          have i10 : (l.length : Int) ≤ c := by omega
          skip
          rw [if_neg (show ¬ c = k by omega)] at htd
          go_wp2_with (at_builtin; refine wpList_append_tx rfl (.tmp 59) (.tmp 62) rfl g1.w.heap.size (.slice (some ⟨gg6, 0, none⟩) (k + 1) cc6) (k + 1) _ rfl HO6.out _ _ (l.drop (k)) (by rw [hld]; rfl) (htd.cap _) h6d (fun h => by cases h) (by rw [hld]; unfold maxLen; omega) (by rw [hld]; omega) (by omega) ?_)
          intro v7 w7 hown7 hg7
          have hB7 : Below W1.heap.size W1 w7 := Below.grown HB6.out hg7 HB6.out.size (fun j hj => by have := (HO6.out.lt j hj).1; omega)
          have heq : ct (insT (kx, [x0, x1, x2, x3, x4, x5]) l) = ct (l.take k) ++ [.int .i64 kx, .int .u8 x0, .int .u8 x1, .int .u8 x2, .int .u8 x3, .int .u8 x4, .int .u8 x5] ++ ct (l.drop (k)) := by
            rw [ins_here HK.out HA.out (by dsimp only; rw [HC.out]; exact hcp)]
            simp [ct, encT]
          have hlen : (insT (kx, [x0, x1, x2, x3, x4, x5]) l).length = k + 1 + (l.drop (k)).length := by
            rw [ins_here HK.out HA.out (by dsimp only; rw [HC.out]; exact hcp)]
            simp only [List.length_append, List.length_cons, hlk]
            omega
          have hown8 : w7.ownsRow g1.w.heap.size 63 7 v7 (insT (kx, [x0, x1, x2, x3, x4, x5]) l).length (ct (insT (kx, [x0, x1, x2, x3, x4, x5]) l)) := by rw [heq, hlen, hld]; first | (simpa using hown7; done) | (simpa [show l.length - (k) = 0 by omega] using hown7)
          have h6i : ∀ t ∈ insT (kx, [x0, x1, x2, x3, x4, x5]) l, t.2.length = 6 := fun t ht => ins_len6 (x := (kx, [x0, x1, x2, x3, x4, x5])) rfl (fun t ht => (HL.out t ht).1.1.1) t ht
          have htx := Tx.own hown8 (by rw [hlen, hld]; unfold maxLen; omega) h6i
          have hcap := capok_own hown8
          have hnw : NewB w.heap.size v7 := ⟨hcap, fun j hj => by have := (hown8.lt j hj).1; omega⟩
          have hpos : 0 < (insT (kx, [x0, x1, x2, x3, x4, x5]) l).length := by rw [hlen]; omega
          have hsm := some_own hown8 hpos
          clear hown7 hown8 hg7
          go_wp2_with (fail)
          go_ret
          exact ⟨_, rfl, htx, hsm, hnw, below_then hB1 hB7⟩
    · obtain rfl : k = l.length := by omega
      go_wp2_with (fail)
      refine region_quiet' g0 (by kernel_rfl) (by kernel_rfl) ?_
      repeat (go_big_quiet_step (fail))
      refine wpQuiet_nil ?_
      rintro _ ⟨g1, rfl⟩
      clear y1 y2 y3 y4 y5 y6
      have hlk : (l.take l.length).length = l.length := by rw [List.length_take]; omega
      have hxk := Tx.take l.length (by omega) HV.out hc
      have h6k : ∀ t ∈ l.take l.length, t.2.length = 6 := fun t ht => (HL.out t (List.mem_of_mem_take ht)).1.1.1
      have hW2 : Below g1.w.heap.size g1.w (g1.w.alloc (.cells #[] 63)) := (Below.refl _ _).alloc (Nat.le_refl _) _
      have hown0 := own_empty g1.w
      have htk := (hxk.grow (below_then hB1 g1.h)).grow hW2
      go_wp2_with (at_builtin; refine wpList_append_tx rfl (.tmp 24) (.tmp 27) rfl g1.w.heap.size (.slice (some ⟨g1.w.heap.size, 0, none⟩) 0 0) 0 [] rfl hown0 (some ⟨b, o, none⟩) c (l.take l.length) (by rw [hlk]; rfl) htk h6k (fun h => by cases h) (by rw [hlk]; unfold maxLen; omega) (by rw [hlk]; omega) (by simp) ?_)
      intro v3 w3 hown3 hg3
      have hB3 : Below g1.w.heap.size g1.w w3 := Below.grown hW2 hg3 hW2.size (fun j hj => by simp [Value.ownBlock] at hj; omega)
      have hB13 := g1.h.trans (hB3.mono g1.h.size)
      try simp only [List.nil_append, Nat.zero_add] at hown3
      have HO3 := Lib.hid hown3
      have HB3 := Lib.hid hB13
      have hle3 : W1.heap.size ≤ g1.w.heap.size := g1.h.size
      have hle4 : g1.w.heap.size ≤ w3.heap.size := hB3.size
      clear hown3 hg3 hown0 htk hxk h6k hW2 hB3 hB13
      obtain ⟨q0, hq0⟩ : ∃ g : Grown w3, w3 = g.w := ⟨⟨w3, Below.refl _ _⟩, rfl⟩
      rw [hq0]
      go_wp2_with (fail)
      refine region_quiet' q0 (by kernel_rfl) (by kernel_rfl) ?_
      repeat (go_big_quiet_step (fail))
      refine wpQuiet_nil ?_
      rintro _ ⟨g5, rfl⟩
      have hrow5 := own_keptT HO3.out g5.h
      have z0 := heapT_cell (((HB3.out.trans (g5.h.mono HB3.out.size)).block w.heap.size hs1).trans HX1.out) (k := 0) rfl
      have z1 := heapT_cell (((HB3.out.trans (g5.h.mono HB3.out.size)).block w.heap.size hs1).trans HX1.out) (k := 1) rfl
      have z2 := heapT_cell (((HB3.out.trans (g5.h.mono HB3.out.size)).block w.heap.size hs1).trans HX1.out) (k := 2) rfl
      have z3 := heapT_cell (((HB3.out.trans (g5.h.mono HB3.out.size)).block w.heap.size hs1).trans HX1.out) (k := 3) rfl
      have z4 := heapT_cell (((HB3.out.trans (g5.h.mono HB3.out.size)).block w.heap.size hs1).trans HX1.out) (k := 4) rfl
      have z5 := heapT_cell (((HB3.out.trans (g5.h.mono HB3.out.size)).block w.heap.size hs1).trans HX1.out) (k := 5) rfl
      have z6 := heapT_cell (((HB3.out.trans (g5.h.mono HB3.out.size)).block w.heap.size hs1).trans HX1.out) (k := 6) rfl
      have hB5 := HB3.out.trans (g5.h.mono HB3.out.size)
      have hW5 : g1.w.heap.size ≤ g5.w.heap.size := Nat.le_trans hle4 g5.h.size
      go_wp2_with (at_builtin; refine wpList_append_own _ rfl (.tmp 55) (.tmp 57) 22 rfl g1.w.heap.size 63 i0 (.agg #[.int .i64 0, .int .u8 0, .int .u8 0, .int .u8 0, .int .u8 0, .int .u8 0, .int .u8 0]) 7 16 Tryz.underlying22 hi hz0 hz1 hz2 rfl (by decide) v3 l.length _ rfl (hrow5.alloc _) ⟨g5.w.heap.size, 0, none⟩ 1 1 [.int .i64 kx, .int .u8 x0, .int .u8 x1, .int .u8 x2, .int .u8 x3, .int .u8 x4, .int .u8 x5] rfl rfl (new_t _ _ _ _ _ _ _ _) (one_t _ _ _ _ _ _ _) (by unfold maxLen; omega) (by omega) (by simp only [World.size_alloc]; omega) ?_)
      intro v6 w6 hown6 hg6 _
      have hB6 : Below W1.heap.size W1 w6 := Below.grown (hB5.alloc hB5.size _) hg6 (by simp only [World.size_alloc]; exact Nat.le_succ_of_le hB5.size) (fun j hj => by have := (hrow5.lt j hj).1; omega)
      obtain ⟨gg6, cc6, rfl⟩ := ownsRow_succ hown6
      have hle6 : g1.w.heap.size ≤ w6.heap.size := by have := hg6.size; simp only [World.size_alloc] at this; omega
      have HO6 := Lib.hid hown6
      have HB6 := Lib.hid hB6
      clear hown6 hg6 hB6 hrow5 z0 z1 z2 z3 z4 z5 z6 hB5
      have hdr := Tx.drop l.length (by omega) HV.out hc
      have htd := hdr.grow (below_then hB1 HB6.out)
      have hld : (l.drop (l.length)).length = l.length - (l.length) := by rw [List.length_drop]
      have h6d : ∀ t ∈ l.drop (l.length), t.2.length = 6 := fun t ht => (HL.out t (List.mem_of_mem_drop ht)).1.1.1
      have i9 : ((l.length : Nat) : Int) ≤ l.length := by omega
      have i10 : (l.length : Int) ≤ c := by omega
      skip
      by_cases hck : c = l.length
      · subst hck
        rw [if_pos rfl] at htd
        go_wp2_with (at_builtin; refine wpList_append_tx rfl (.tmp 59) (.tmp 62) rfl g1.w.heap.size (.slice (some ⟨gg6, 0, none⟩) (l.length + 1) cc6) (l.length + 1) _ rfl HO6.out _ _ (l.drop (l.length)) (by rw [hld]; rw [Nat.sub_self]; rfl) (htd.cap _) h6d (fun h => by cases h) (by rw [hld]; unfold maxLen; omega) (by rw [hld]; omega) (by omega) ?_)
        intro v7 w7 hown7 hg7
        have hB7 : Below W1.heap.size W1 w7 := Below.grown HB6.out hg7 HB6.out.size (fun j hj => by have := (HO6.out.lt j hj).1; omega)
        have heq : ct (insT (kx, [x0, x1, x2, x3, x4, x5]) l) = ct (l.take l.length) ++ [.int .i64 kx, .int .u8 x0, .int .u8 x1, .int .u8 x2, .int .u8 x3, .int .u8 x4, .int .u8 x5] ++ ct (l.drop (l.length)) := by
          rw [ins_end HK.out]
          simp [ct, encT]
        have hlen : (insT (kx, [x0, x1, x2, x3, x4, x5]) l).length = l.length + 1 + (l.drop (l.length)).length := by
          rw [ins_end HK.out]
          simp only [List.length_append, List.length_cons, hlk]
          omega
        have hown8 : w7.ownsRow g1.w.heap.size 63 7 v7 (insT (kx, [x0, x1, x2, x3, x4, x5]) l).length (ct (insT (kx, [x0, x1, x2, x3, x4, x5]) l)) := by rw [heq, hlen, hld]; first | (simpa using hown7; done) | (simpa [show l.length - (l.length) = 0 by omega] using hown7)
        have h6i : ∀ t ∈ insT (kx, [x0, x1, x2, x3, x4, x5]) l, t.2.length = 6 := fun t ht => ins_len6 (x := (kx, [x0, x1, x2, x3, x4, x5])) rfl (fun t ht => (HL.out t ht).1.1.1) t ht
        have htx := Tx.own hown8 (by rw [hlen, hld]; unfold maxLen; omega) h6i
        have hcap := capok_own hown8
        have hnw : NewB w.heap.size v7 := ⟨hcap, fun j hj => by have := (hown8.lt j hj).1; omega⟩
        have hpos : 0 < (insT (kx, [x0, x1, x2, x3, x4, x5]) l).length := by rw [hlen]; omega
        have hsm := some_own hown8 hpos
        clear hown7 hown8 hg7
        go_wp2_with (fail)
        go_ret
        exact ⟨_, rfl, htx, hsm, hnw, below_then hB1 hB7⟩
      · rw [if_neg hck] at htd
        go_wp2_with (at_builtin; refine wpList_append_tx rfl (.tmp 59) (.tmp 62) rfl g1.w.heap.size (.slice (some ⟨gg6, 0, none⟩) (l.length + 1) cc6) (l.length + 1) _ rfl HO6.out _ _ (l.drop (l.length)) (by rw [hld]; rw [Nat.sub_self]; rfl) (htd.cap _) h6d (fun h => by cases h) (by rw [hld]; unfold maxLen; omega) (by rw [hld]; omega) (by omega) ?_)
        intro v7 w7 hown7 hg7
        have hB7 : Below W1.heap.size W1 w7 := Below.grown HB6.out hg7 HB6.out.size (fun j hj => by have := (HO6.out.lt j hj).1; omega)
        have heq : ct (insT (kx, [x0, x1, x2, x3, x4, x5]) l) = ct (l.take l.length) ++ [.int .i64 kx, .int .u8 x0, .int .u8 x1, .int .u8 x2, .int .u8 x3, .int .u8 x4, .int .u8 x5] ++ ct (l.drop (l.length)) := by
          rw [ins_end HK.out]
          simp [ct, encT]
        have hlen : (insT (kx, [x0, x1, x2, x3, x4, x5]) l).length = l.length + 1 + (l.drop (l.length)).length := by
          rw [ins_end HK.out]
          simp only [List.length_append, List.length_cons, hlk]
          omega
        have hown8 : w7.ownsRow g1.w.heap.size 63 7 v7 (insT (kx, [x0, x1, x2, x3, x4, x5]) l).length (ct (insT (kx, [x0, x1, x2, x3, x4, x5]) l)) := by rw [heq, hlen, hld]; first | (simpa using hown7; done) | (simpa [show l.length - (l.length) = 0 by omega] using hown7)
        have h6i : ∀ t ∈ insT (kx, [x0, x1, x2, x3, x4, x5]) l, t.2.length = 6 := fun t ht => ins_len6 (x := (kx, [x0, x1, x2, x3, x4, x5])) rfl (fun t ht => (HL.out t ht).1.1.1) t ht
        have htx := Tx.own hown8 (by rw [hlen, hld]; unfold maxLen; omega) h6i
        have hcap := capok_own hown8
        have hnw : NewB w.heap.size v7 := ⟨hcap, fun j hj => by have := (hown8.lt j hj).1; omega⟩
        have hpos : 0 < (insT (kx, [x0, x1, x2, x3, x4, x5]) l).length := by rw [hlen]; omega
        have hsm := some_own hown8 hpos
        clear hown7 hown8 hg7
        go_wp2_with (fail)
        go_ret
        exact ⟨_, rfl, htx, hsm, hnw, below_then hB1 hB7⟩
end Go.Proofs.YthakeeinhgfbbaaGreat

namespace Go.Proofs.YthakeeinhgfbbaaGreat
open Go.ChangeShapes Go.WideShapes Go.ChangeAt Go.RowKit
set_option linter.unusedVariables false
set_option linter.unusedSimpArgs false
set_option maxRecDepth 100000

attribute [local irreducible] Calls
theorem no_num {l : List Tm} {t : Tm} (ht : t ∈ l) (h : ¬ Num t.1) : ¬ VP l := fun g => by
  have := List.any_eq_false.1 g.2.2 t ht
  simp [noNum, h] at this
set_option maxHeartbeats 8000000 in
theorem r5valid_ok (v : Value) (l : List Tm) (R : Bool) (w : World) (hv : Tx w v l) (hl : ∀ t ∈ l, TV t) (hR : R = true ↔ VP l) :
    Calls Tryz.prog 53 #[v] w fun e w' => e = .returned (.bool R) ∧ Below w.heap.size w w' := by
  have h1 := hv.1
  unfold maxLen at h1
  obtain ⟨p, c, rfl⟩ := hv.cut
  have HV := Lib.hid hv
  have HL := Lib.hid hl
  have HR := Lib.hid hR
  clear hv hl hR
  go_enter Tryz.func53, Tryz.ntmps53
  go_wp2_with (fail)
  go_loopw [3] (fun i wr => ∃ k : Nat, i = .int .i64 k ∧ k ≤ l.length ∧ Hid (allT l k ∧ (l.take k).any noNum = false) ∧ ∃ g : Grown w, wr = g.w) (fun i _ => l.length - (intOf i).toNat)
  case atStart => exact ⟨0, rfl, Nat.zero_le _, Lib.hid ⟨(fun i hi => absurd hi (Nat.not_lt_zero _)), rfl⟩, ⟨w, Below.refl _ _⟩, rfl⟩
  case round =>
    obtain ⟨k, rfl, hk, HK, g0, rfl⟩ := hrel
    by_cases hlt : k < l.length
    · have i1 : (k : Int) < l.length := by omega
      obtain ⟨x, hx⟩ : ∃ x, l[k]? = some x := ⟨_, List.getElem?_eq_getElem hlt⟩
      have tx := HL.out x (List.mem_of_getElem? hx)
      obtain ⟨ka, a0, a1, a2, a3, a4, a5, rfl⟩ := six_at tx
      obtain ⟨b, o, hp, hb, rda⟩ := HV.out.rd7 hx
      subst hp
      have fa0 := fun g : Grown w => (rda g).1
      have fa1 := fun g : Grown w => (rda g).2.1
      have fa2 := fun g : Grown w => (rda g).2.2.1
      have fa3 := fun g : Grown w => (rda g).2.2.2.1
      have fa4 := fun g : Grown w => (rda g).2.2.2.2.1
      have fa5 := fun g : Grown w => (rda g).2.2.2.2.2.1
      have fa6 := fun g : Grown w => (rda g).2.2.2.2.2.2
      have HD := Lib.hid (fun w => r5deg [a0, a1, a2, a3, a4, a5] w tx.1)
      rw [show valE [a0, a1, a2, a3, a4, a5] = .agg #[.int .u8 a0, .int .u8 a1, .int .u8 a2, .int .u8 a3, .int .u8 a4, .int .u8 a5] from rfl] at HD
      obtain ⟨D, hD⟩ : ∃ D, degE [a0, a1, a2, a3, a4, a5] = D := ⟨_, rfl⟩
      rw [hD] at HD
      have Hx := Lib.hid hx
      have HDD := Lib.hid hD
      have Ht := Lib.hid tx
      clear rda hx hD tx
      by_cases hnum : Num ka
      · have HN := Lib.hid (fun w => r2num_yes ka w hnum)
        have HNM := Lib.hid hnum
        clear hnum
        by_cases hc : ka = 0
        · have hc' : (ka == 0) = true := by simpa using hc
          have hr : R = false := by
            rw [← Bool.not_eq_true, HR.out]
            refine vp_no hlt ?_
            rintro ⟨t, ht, g1, _⟩
            rw [Hx.out] at ht
            obtain rfl := Option.some.inj ht
            exact g1 hc
          subst hr
          clear hc
          go_wp2_with (fail)
          refine region_quiet' g0 (by kernel_rfl) (by kernel_rfl) ?_
          repeat (go_big_quiet_step (first | exact qs (HN.out _) | exact qc (HD.out _)))
          refine wpQuiet_nil ?_
          rintro _ ⟨g1, rfl⟩
          go_wp2_with (fail)
          go_ret
          exact ⟨rfl, g1.h⟩
        · have hc' : (ka == 0) = false := by simpa using hc
          by_cases hd : 6 < D
          · have hd2 : decide (6 < D) = true := by simpa using hd
            have hr : R = false := by
              rw [← Bool.not_eq_true, HR.out]
              refine vp_no hlt ?_
              rintro ⟨t, ht, _, g1, _⟩
              rw [Hx.out] at ht
              obtain rfl := Option.some.inj ht
              dsimp only at g1
              rw [HDD.out] at g1
              omega
            subst hr
            skip
            go_wp2_with (fail)
            refine region_quiet' g0 (by kernel_rfl) (by kernel_rfl) ?_
            repeat (go_big_quiet_step (first | exact qs (HN.out _) | exact qc (HD.out _)))
            refine wpQuiet_nil ?_
            rintro _ ⟨g1, rfl⟩
            go_wp2_with (fail)
            go_ret
            exact ⟨rfl, g1.h⟩
          · have hd' : D ≤ 6 := by omega
            have hd2 : decide (6 < D) = false := by simpa using hd'
            have hnn : ∀ k', k = k' → (l.take (k' + 1)).any noNum = false := fun k' hk' => by
              subst hk'
              rw [List.take_add_one, Hx.out, List.any_append, HK.out.2]
              simp [noNum, HNM.out]
            have HNN := Lib.hid hnn
            clear hnn
            by_cases hk0 : k = 0
            · subst hk0
              have HN2 : Hid (allT l (0 + 1) ∧ (l.take (0 + 1)).any noNum = false) := Lib.hid ⟨allT_next HK.out.1 ⟨_, Hx.out, hc, by dsimp only; rw [HDD.out]; exact hd', fun h => absurd h (Nat.lt_irrefl _)⟩, HNN.out 0 rfl⟩
              simp only [Nat.zero_mul, Nat.add_zero, Nat.zero_add] at fa0 fa1 fa2 fa3 fa4 fa5 fa6
              rw [show ((0 : Nat) : Int) = 0 from rfl] at *
              go_wp2_with (fail)
              refine region_quiet' g0 (by kernel_rfl) (by kernel_rfl) ?_
              repeat (go_big_quiet_step (first | exact qs (HN.out _) | exact qc (HD.out _)))
              refine wpQuiet_nil ?_
              rintro _ ⟨g1, rfl⟩
              go_wp2_with (fail)
              go_roundw
              case rel => exact ⟨0 + 1, by go_num, by omega, HN2, g1, rfl⟩
              case measure => simp [intOf]; omega
            · have hk1 : (0 : Int) < (k : Int) := by omega
              obtain ⟨j, rfl⟩ : ∃ j, k = j + 1 := ⟨k - 1, by omega⟩
              obtain ⟨y, hy⟩ : ∃ y, l[j]? = some y := ⟨_, List.getElem?_eq_getElem (by omega)⟩
              have ty := HL.out y (List.mem_of_getElem? hy)
              obtain ⟨kb, b0, b1, b2, b3, b4, b5, rfl⟩ := six_at ty
              obtain ⟨b', o', hp', hb', rdb⟩ := HV.out.rd7 hy
              simp only [Option.some.injEq, Addr.mk.injEq, and_true] at hp'
              obtain ⟨rfl, rfl⟩ := hp'
              have fb1 := fun g : Grown w => (rdb g).2.1
              have fb2 := fun g : Grown w => (rdb g).2.2.1
              have fb3 := fun g : Grown w => (rdb g).2.2.2.1
              have fb4 := fun g : Grown w => (rdb g).2.2.2.2.1
              have fb5 := fun g : Grown w => (rdb g).2.2.2.2.2.1
              have fb6 := fun g : Grown w => (rdb g).2.2.2.2.2.2
              have ej : IntKind.i64.wrap (((j + 1 : Nat) : Int) - 1) = (j : Int) := by rw [show ((j + 1 : Nat) : Int) - 1 = (j : Int) by omega]; exact wrap_i64 _ (by omega) (by omega)
              have ej2 : IntKind.i64.wrap ((j : Int) + 1 - 1) = (j : Int) := by rw [show (j : Int) + 1 - 1 = (j : Int) by omega]; exact wrap_i64 _ (by omega) (by omega)
              have ej3 : IntKind.i64.wrap (j : Int) = (j : Int) := wrap_i64 _ (by omega) (by omega)
              have ij : (j : Int) < (l.length : Int) := by omega
              have ij0 : (0 : Int) ≤ (j : Int) := by omega
              have hk2 : decide (0 < (j : Int) + 1) = true := decide_eq_true (by omega)
              have HO := Lib.hid (fun w => r5order [b0, b1, b2, b3, b4, b5] [a0, a1, a2, a3, a4, a5] w ty.1 Ht.out.1)
              rw [show valE [a0, a1, a2, a3, a4, a5] = .agg #[.int .u8 a0, .int .u8 a1, .int .u8 a2, .int .u8 a3, .int .u8 a4, .int .u8 a5] from rfl, show valE [b0, b1, b2, b3, b4, b5] = .agg #[.int .u8 b0, .int .u8 b1, .int .u8 b2, .int .u8 b3, .int .u8 b4, .int .u8 b5] from rfl] at HO
              obtain ⟨C, hC⟩ : ∃ C, cmpE [b0, b1, b2, b3, b4, b5] [a0, a1, a2, a3, a4, a5] = C := ⟨_, rfl⟩
              rw [hC] at HO
              have Hy := Lib.hid hy
              have HCC := Lib.hid hC
              clear hy hC rdb ty
              by_cases h0 : C < 0
              · have HN2 : Hid (allT l (j + 1 + 1) ∧ (l.take (j + 1 + 1)).any noNum = false) := Lib.hid ⟨allT_next HK.out.1 ⟨_, Hx.out, hc, by dsimp only; rw [HDD.out]; exact hd', fun h => ⟨_, Hy.out, by dsimp only; rw [HCC.out]; exact h0⟩⟩, HNN.out (j + 1) rfl⟩
                go_wp2_with (fail)
                refine region_quiet' g0 (by kernel_rfl) (by kernel_rfl) ?_
                repeat (go_big_quiet_step (first | exact qs (HN.out _) | exact qc (HD.out _) | exact qc (HO.out _)))
                refine wpQuiet_nil ?_
                rintro _ ⟨g1, rfl⟩
                go_wp2_with (fail)
                go_roundw
                case rel => exact ⟨j + 1 + 1, by go_num, by omega, HN2, g1, rfl⟩
                case measure => simp [intOf]; omega
              · have h0' : 0 ≤ C := by omega
                have hr : R = false := by
                  rw [← Bool.not_eq_true, HR.out]
                  refine vp_no hlt ?_
                  rintro ⟨t, ht, _, _, g1⟩
                  rw [Hx.out] at ht
                  obtain rfl := Option.some.inj ht
                  obtain ⟨s, hs, g2⟩ := g1 (by omega)
                  rw [Nat.add_sub_cancel, Hy.out] at hs
                  obtain rfl := Option.some.inj hs
                  dsimp only at g2
                  rw [HCC.out] at g2
                  omega
                subst hr
                skip
                go_wp2_with (fail)
                refine region_quiet' g0 (by kernel_rfl) (by kernel_rfl) ?_
                repeat (go_big_quiet_step (first | exact qs (HN.out _) | exact qc (HD.out _) | exact qc (HO.out _)))
                refine wpQuiet_nil ?_
                rintro _ ⟨g1, rfl⟩
                go_wp2_with (fail)
                go_ret
                exact ⟨rfl, g1.h⟩
      · have HN := Lib.hid (fun w => r2num_no ka w hnum)
        have hr : R = false := by
          rw [← Bool.not_eq_true, HR.out]
          exact no_num (List.mem_of_getElem? Hx.out) hnum
        subst hr
        skip
        go_wp2_with (fail)
        refine region_quiet' g0 (by kernel_rfl) (by kernel_rfl) ?_
        repeat (go_big_quiet_step (first | exact qs (HN.out _) | exact qc (HD.out _)))
        refine wpQuiet_nil ?_
        rintro _ ⟨g1, rfl⟩
        go_wp2_with (fail)
        go_ret
        exact ⟨rfl, g1.h⟩
    · obtain rfl : k = l.length := by omega
      have hfin : VP l ↔ l.length ≤ 100 := by
        have h := HK.out
        rw [List.take_of_length_le (Nat.le_refl _)] at h
        exact ⟨fun g => g.2.1, fun g => ⟨h.1, g, h.2⟩⟩
      by_cases h100 : l.length ≤ 100
      · have hr : R = true := HR.out.2 (hfin.2 h100)
        subst hr
        have hle : (l.length : Int) ≤ 100 := by omega
        clear hfin
        go_wp2_with (fail)
        go_ret
        exact ⟨by simp; first | done | omega, g0.h⟩
      · have hr : R = false := by
          rw [← Bool.not_eq_true, HR.out]
          exact fun g => h100 (hfin.1 g)
        subst hr
        have hle : (100 : Int) < l.length := by omega
        clear hfin
        go_wp2_with (fail)
        go_ret
        exact ⟨by simp; first | done | omega, g0.h⟩
end Go.Proofs.YthakeeinhgfbbaaGreat

namespace Go.Proofs.YthakeeinhgfbbaaGreat
open Go.ChangeShapes Go.WideShapes Go.ChangeAt Go.RowKit
set_option linter.unusedVariables false
set_option linter.unusedSimpArgs false
set_option maxRecDepth 100000

attribute [local irreducible] Calls
/-- A term in a block of its own. -/
def ByT (W : World) (b : Nat) (k : Int) (e : List Int) : Prop := W.heap[b]? = some (.cells (.int .i64 k :: e.map (.int .u8 ·)).toArray 63 (0, 0))
theorem ByT.lt {W : World} {b : Nat} {k : Int} {e : List Int} (h : ByT W b k e) : b < W.heap.size := (Array.getElem?_eq_some_iff.1 h).1
theorem ByT.set {W : World} {b : Nat} {k : Int} {e : List Int} (h : ByT W b k e) (j : Nat) (x : Int) : ByT (W.setCell ⟨b, j + 1, none⟩ (.int .u8 x)) b k (e.set j x) := by
  have h1 := cellsT_set (o := j + 1) (u := .int .u8 x) h
  refine Eq.trans h1 ?_
  simp [List.map_set]
theorem ByT.frozen {W : World} {b : Nat} {k : Int} {e : List Int} (h : ByT W b k e) (o : Nat) : W.frozen? ⟨b, o, none⟩ = false := by simp [World.frozen?, show W.heap[b]? = _ from h]
/-- What Made's polynomials keep. -/
def Good5 (most : Int) (m : List Tm) : Prop := VP m ∧ (m.length : Int) ≤ most ∧ ∀ t ∈ m, TV t
theorem good_nil {most : Int} (h : 0 ≤ most) : Good5 most [] := ⟨⟨fun i hi => absurd hi (Nat.not_lt_zero _), Nat.zero_le _, rfl⟩, h, by simp⟩
theorem vp_num {m : List Tm} (h : VP m) : ∀ t ∈ m, Num t.1 := fun t ht => by
  have := List.any_eq_false.1 h.2.2 t ht
  simpa [noNum] using this
theorem good_small {most : Int} {m : List Tm} (h : Good5 most m) : ∀ t ∈ m, TV t ∧ Small62 t := fun t ht => ⟨h.2.2 t ht, by
  have := vp_num h.1 t ht
  unfold Num at this
  unfold Small62
  omega⟩
theorem ins_tv {x : Tm} (hx : TV x ∧ Small62 x) : ∀ {l : List Tm}, (∀ t ∈ l, TV t ∧ Small62 t) → ∀ t ∈ insT x l, TV t
  | [], _, t, ht => by simp [insT] at ht; subst ht; exact hx.1
  | q :: r, h, t, ht => by
    unfold insT at ht
    split at ht
    · rcases List.mem_cons.1 ht with rfl | ht
      · exact (h _ (by simp)).1
      · exact ins_tv hx (fun t ht => h t (by simp [ht])) t ht
    · split at ht
      · rcases List.mem_cons.1 ht with rfl | ht
        · have h1 := h q (by simp)
          have h2 := h1.2
          have h3 := hx.2
          unfold Small62 at h2 h3
          exact ⟨hx.1.1, by dsimp only; omega, by dsimp only; omega⟩
        · exact (h t (by simp [ht])).1
      · rcases List.mem_cons.1 ht with rfl | ht
        · exact hx.1
        · exact (h t ht).1
theorem good_ins {most : Int} {m : List Tm} {x : Tm} (h : Good5 most m) (hl : (m.length : Int) < most) (hx : TV x ∧ Small62 x) (hv : VP (insT x m)) : Good5 most (insT x m) :=
  ⟨hv, by have := ins_len x m; omega, ins_tv hx (good_small h)⟩
theorem rem_num {a n : Int} (h1 : 1 ≤ n) (h2 : n ≤ 2147483648) : Num (a.tmod n) := by
  have h3 := Int.tmod_lt_of_pos a (b := n) (by omega)
  have h4 : -n < a.tmod n := by
    have := Int.tmod_lt_of_pos (-a) (b := n) (by omega)
    rw [Int.neg_tmod] at this
    omega
  unfold Num
  omega
set_option maxHeartbeats 40000000 in
theorem made5 (v : Value) (l : List Tm) (most size : Int) (w : World) (hv : Tx w v l) (hl : ∀ t ∈ l, TV t) (hm : 0 ≤ most ∧ most ≤ 100) (hz : 1 ≤ size ∧ size ≤ 2147483648) :
    Calls Tryz.prog 72 #[v, .int .i64 most, .int .i64 size] w fun e w' => ∃ r m, e = .returned r ∧ Tx w' r m ∧ SomeS r ∧ Good5 most m ∧ Below w.heap.size w w' := by
  have h1 := hv.1
  unfold maxLen at h1
  obtain ⟨p, c, rfl⟩ := hv.cut
  have HV := Lib.hid hv
  have HL := Lib.hid hl
  have hm0 := hm.1
  have hm1 := hm.2
  have hz0 := hz.1
  have hz1 := hz.2
  have hz2 : ¬ size = 0 := by omega
  have hz3 : ¬ size = -1 := by omega
  clear hv hl hm hz
  go_enter Tryz.func72, Tryz.ntmps72
  go_wp2_with (fail)
  go_loopw [7, 8] (fun u i wr => ∃ (m : List Tm) (k : Nat), i = .int .i64 k ∧ k ≤ l.length ∧ Hid (Good5 most m) ∧ Hid (Tx wr u m) ∧ SomeS u ∧ Below w.heap.size w wr) (fun _ i _ => l.length - (intOf i).toNat)
  case atStart => exact ⟨[], 0, rfl, Nat.zero_le _, Lib.hid (good_nil hm0), Lib.hid ⟨Nat.zero_le _, _, _, rfl, fun i x hx => by simp at hx⟩, ⟨_, _, _, _, rfl, Nat.le_refl _⟩, (Below.refl _ _).alloc (Nat.le_refl _) _⟩
  case round =>
    obtain ⟨m, k, rfl, hk, HG, HT, ⟨b, o, n, c', rfl, hcap⟩, hB⟩ := hrel
    obtain rfl : n = m.length := by
      obtain ⟨_, _, _, e, _⟩ := HT.out
      simp only [Value.slice.injEq] at e
      exact e.2.1
    have hml := HG.out.2.1
    obtain ⟨wo, rfl⟩ : ∃ wo, wo = wr := ⟨_, rfl⟩
    by_cases hlt : k < l.length
    · have i1 : (k : Int) < l.length := by omega
      by_cases hlm : (m.length : Int) < most
      · obtain ⟨x, hx⟩ : ∃ x, l[k]? = some x := ⟨_, List.getElem?_eq_getElem hlt⟩
        have tx := HL.out x (List.mem_of_getElem? hx)
        obtain ⟨ka, a0, a1, a2, a3, a4, a5, rfl⟩ := six_at tx
        obtain ⟨b1, o1, hp, hb, rda⟩ := HV.out.rd7 hx
        subst hp
        have fa0 := (rda ⟨wo, hB⟩).1
        dsimp only at fa0
        have HD := Lib.hid rda
        have q0 := tx.1.2 a0 (by simp)
        have q1 := tx.1.2 a1 (by simp)
        have q2 := tx.1.2 a2 (by simp)
        have q3 := tx.1.2 a3 (by simp)
        have q4 := tx.1.2 a4 (by simp)
        have q5 := tx.1.2 a5 (by simp)
        have HN := Lib.hid (rem_num (a := ka) hz0 hz1)
        clear rda hx tx
        have hsz := hB.size
        go_wp2_with (fail)
        clear fa0
        obtain ⟨C, hC⟩ : ∃ C, ka.tmod size = C := ⟨_, rfl⟩
        rw [hC] at HN ⊢
        clear hC
        obtain ⟨W1, hW1⟩ : ∃ W, wo.alloc (.cells #[.int .i64 C, .int .u8 0, .int .u8 0, .int .u8 0, .int .u8 0, .int .u8 0, .int .u8 0] 63) = W := ⟨_, rfl⟩
        have hb1 : Below wo.heap.size wo W1 := by rw [← hW1]; exact (Below.refl _ _).alloc (Nat.le_refl _) _
        have X1 : ByT W1 wo.heap.size C [0, 0, 0, 0, 0, 0] := by rw [← hW1]; exact World.alloc_heap_new wo _
        have HX1 := Lib.hid X1
        rw [hW1]
        clear hW1 X1
        go_loopw [10, 11] (fun u i wr => ∃ (q s : Nat) (e : List Int), u = .int .i64 s ∧ i = .int .i64 q ∧ q ≤ 6 ∧ s ≤ 6 ∧ Hid (EV e ∧ degE e + s = 6 ∧ ∀ j, q ≤ j → j < 6 → e[j]? = some 0) ∧ Hid (ByT wr wo.heap.size C e) ∧ Below wo.heap.size wo wr) (fun _ i _ => 6 - (intOf i).toNat)
        case atStart => exact ⟨0, 6, [0, 0, 0, 0, 0, 0], rfl, rfl, by decide, by decide, Lib.hid ⟨⟨rfl, by decide⟩, by decide, fun j _ hj => by rcases (show j = 0 ∨ j = 1 ∨ j = 2 ∨ j = 3 ∨ j = 4 ∨ j = 5 by omega) with rfl | rfl | rfl | rfl | rfl | rfl <;> rfl⟩, HX1, hb1⟩
        case round =>
          obtain ⟨q, s, e, rfl, rfl, hq, hs, HE, HX, hBi⟩ := hrel
          by_cases hq6 : q < 6
          · have T2 : ∀ a : Int, 0 ≤ a → (a % 7).tmod ((s : Int) + 1) = a % 7 % ((s : Int) + 1) := fun a ha => Int.tmod_eq_emod_of_nonneg (by omega)
            have T3 : ∀ a : Int, 0 ≤ a % 7 % ((s : Int) + 1) ∧ a % 7 % ((s : Int) + 1) ≤ s := fun a => ⟨Int.emod_nonneg _ (by omega), by have := Int.emod_lt_of_pos (a % 7) (b := (s : Int) + 1) (by omega); omega⟩
            have Wu : IntKind.u8.wrap ((s : Int) + 1) = (s : Int) + 1 := by rw [wrap_u8 _ (by omega)]; omega
            have nz : ¬ ((s : Int) + 1 = 0) := by omega
            rcases (show q = 0 ∨ q = 1 ∨ q = 2 ∨ q = 3 ∨ q = 4 ∨ q = 5 by omega) with rfl | rfl | rfl | rfl | rfl | rfl
            · obtain ⟨y0, y1, y2, y3, y4, y5, rfl⟩ := six_of HE.out.1
              obtain rfl : y0 = 0 := by have := HE.out.2.2 0 (by decide) (by decide); simpa using this
              obtain rfl : y1 = 0 := by have := HE.out.2.2 1 (by decide) (by decide); simpa using this
              obtain rfl : y2 = 0 := by have := HE.out.2.2 2 (by decide) (by decide); simpa using this
              obtain rfl : y3 = 0 := by have := HE.out.2.2 3 (by decide) (by decide); simpa using this
              obtain rfl : y4 = 0 := by have := HE.out.2.2 4 (by decide) (by decide); simpa using this
              obtain rfl : y5 = 0 := by have := HE.out.2.2 5 (by decide) (by decide); simpa using this
              have fa := (HD.out ⟨wr, below_then hB hBi⟩).2.1
              dsimp only at fa
              have xq := heapT_cell HX.out (k := 1) rfl
              have fz := HX.out.frozen 1
              have t1 : a0.tmod 7 = a0 % 7 := Int.tmod_eq_emod_of_nonneg q0.1
              have t2 := T2 a0 q0.1
              obtain ⟨V, hV⟩ : ∃ V, a0 % 7 % ((s : Int) + 1) = V := ⟨_, rfl⟩
              have hv := T3 a0
              rw [hV] at t2 hv
              have hv0 := hv.1
              have hv1 := hv.2
              have hE := HE.out
              have hset := HX.out.set 0 V
              have hBs : Below wo.heap.size wo ((wr.setCell ⟨wo.heap.size, 1, none⟩ (.int .u8 V))) := hBi.setCell (p := ⟨wo.heap.size, 1, none⟩) (Nat.le_refl _) _
              have HS := Lib.hid hset
              have HBS := Lib.hid hBs
              have HE1 : Hid (EV [V, 0, 0, 0, 0, 0] ∧ degE [V, 0, 0, 0, 0, 0] + ((s - V.toNat : Nat) : Int) = 6 ∧ ∀ j, 1 ≤ j → j < 6 → ([V, 0, 0, 0, 0, 0] : List Int)[j]? = some 0) := Lib.hid ⟨⟨rfl, by
                intro x hx
                have h0 := hE.1.2
                simp only [List.mem_cons, List.not_mem_nil, or_false] at hx h0
                rcases hx with rfl | rfl | rfl | rfl | rfl | rfl
                · exact ⟨hv0, by omega⟩
                · decide
                · decide
                · decide
                · decide
                · decide⟩, by
                have h0 := hE.2.1
                simp only [degE, List.sum_cons, List.sum_nil] at h0 ⊢
                omega, by
                intro j h1 h2
                rcases (show j = 1 ∨ j = 2 ∨ j = 3 ∨ j = 4 ∨ j = 5 by omega) with rfl | rfl | rfl | rfl | rfl <;> rfl⟩
              clear hv hV HE hE hset hBs T2 T3
              go_wp2_with (fail)
              exact ⟨⟨1, s - V.toNat, _, by rw [show ((s - V.toNat : Nat) : Int) = (s : Int) - V by omega], rfl, by decide, by omega, HE1, HS, HBS.out⟩, by simp [intOf]⟩
            · obtain ⟨y0, y1, y2, y3, y4, y5, rfl⟩ := six_of HE.out.1
              obtain rfl : y1 = 0 := by have := HE.out.2.2 1 (by decide) (by decide); simpa using this
              obtain rfl : y2 = 0 := by have := HE.out.2.2 2 (by decide) (by decide); simpa using this
              obtain rfl : y3 = 0 := by have := HE.out.2.2 3 (by decide) (by decide); simpa using this
              obtain rfl : y4 = 0 := by have := HE.out.2.2 4 (by decide) (by decide); simpa using this
              obtain rfl : y5 = 0 := by have := HE.out.2.2 5 (by decide) (by decide); simpa using this
              have fa := (HD.out ⟨wr, below_then hB hBi⟩).2.2.1
              dsimp only at fa
              have xq := heapT_cell HX.out (k := 2) rfl
              have fz := HX.out.frozen 2
              have t1 : a1.tmod 7 = a1 % 7 := Int.tmod_eq_emod_of_nonneg q1.1
              have t2 := T2 a1 q1.1
              obtain ⟨V, hV⟩ : ∃ V, a1 % 7 % ((s : Int) + 1) = V := ⟨_, rfl⟩
              have hv := T3 a1
              rw [hV] at t2 hv
              have hv0 := hv.1
              have hv1 := hv.2
              have hE := HE.out
              have hset := HX.out.set 1 V
              have hBs : Below wo.heap.size wo ((wr.setCell ⟨wo.heap.size, 2, none⟩ (.int .u8 V))) := hBi.setCell (p := ⟨wo.heap.size, 2, none⟩) (Nat.le_refl _) _
              have HS := Lib.hid hset
              have HBS := Lib.hid hBs
              have HE1 : Hid (EV [y0, V, 0, 0, 0, 0] ∧ degE [y0, V, 0, 0, 0, 0] + ((s - V.toNat : Nat) : Int) = 6 ∧ ∀ j, 2 ≤ j → j < 6 → ([y0, V, 0, 0, 0, 0] : List Int)[j]? = some 0) := Lib.hid ⟨⟨rfl, by
                intro x hx
                have h0 := hE.1.2
                simp only [List.mem_cons, List.not_mem_nil, or_false] at hx h0
                rcases hx with rfl | rfl | rfl | rfl | rfl | rfl
                · exact h0 _ (by simp)
                · exact ⟨hv0, by omega⟩
                · decide
                · decide
                · decide
                · decide⟩, by
                have h0 := hE.2.1
                simp only [degE, List.sum_cons, List.sum_nil] at h0 ⊢
                omega, by
                intro j h1 h2
                rcases (show j = 2 ∨ j = 3 ∨ j = 4 ∨ j = 5 by omega) with rfl | rfl | rfl | rfl <;> rfl⟩
              clear hv hV HE hE hset hBs T2 T3
              go_wp2_with (fail)
              exact ⟨⟨2, s - V.toNat, _, by rw [show ((s - V.toNat : Nat) : Int) = (s : Int) - V by omega], rfl, by decide, by omega, HE1, HS, HBS.out⟩, by simp [intOf]⟩
            · obtain ⟨y0, y1, y2, y3, y4, y5, rfl⟩ := six_of HE.out.1
              obtain rfl : y2 = 0 := by have := HE.out.2.2 2 (by decide) (by decide); simpa using this
              obtain rfl : y3 = 0 := by have := HE.out.2.2 3 (by decide) (by decide); simpa using this
              obtain rfl : y4 = 0 := by have := HE.out.2.2 4 (by decide) (by decide); simpa using this
              obtain rfl : y5 = 0 := by have := HE.out.2.2 5 (by decide) (by decide); simpa using this
              have fa := (HD.out ⟨wr, below_then hB hBi⟩).2.2.2.1
              dsimp only at fa
              have xq := heapT_cell HX.out (k := 3) rfl
              have fz := HX.out.frozen 3
              have t1 : a2.tmod 7 = a2 % 7 := Int.tmod_eq_emod_of_nonneg q2.1
              have t2 := T2 a2 q2.1
              obtain ⟨V, hV⟩ : ∃ V, a2 % 7 % ((s : Int) + 1) = V := ⟨_, rfl⟩
              have hv := T3 a2
              rw [hV] at t2 hv
              have hv0 := hv.1
              have hv1 := hv.2
              have hE := HE.out
              have hset := HX.out.set 2 V
              have hBs : Below wo.heap.size wo ((wr.setCell ⟨wo.heap.size, 3, none⟩ (.int .u8 V))) := hBi.setCell (p := ⟨wo.heap.size, 3, none⟩) (Nat.le_refl _) _
              have HS := Lib.hid hset
              have HBS := Lib.hid hBs
              have HE1 : Hid (EV [y0, y1, V, 0, 0, 0] ∧ degE [y0, y1, V, 0, 0, 0] + ((s - V.toNat : Nat) : Int) = 6 ∧ ∀ j, 3 ≤ j → j < 6 → ([y0, y1, V, 0, 0, 0] : List Int)[j]? = some 0) := Lib.hid ⟨⟨rfl, by
                intro x hx
                have h0 := hE.1.2
                simp only [List.mem_cons, List.not_mem_nil, or_false] at hx h0
                rcases hx with rfl | rfl | rfl | rfl | rfl | rfl
                · exact h0 _ (by simp)
                · exact h0 _ (by simp)
                · exact ⟨hv0, by omega⟩
                · decide
                · decide
                · decide⟩, by
                have h0 := hE.2.1
                simp only [degE, List.sum_cons, List.sum_nil] at h0 ⊢
                omega, by
                intro j h1 h2
                rcases (show j = 3 ∨ j = 4 ∨ j = 5 by omega) with rfl | rfl | rfl <;> rfl⟩
              clear hv hV HE hE hset hBs T2 T3
              go_wp2_with (fail)
              exact ⟨⟨3, s - V.toNat, _, by rw [show ((s - V.toNat : Nat) : Int) = (s : Int) - V by omega], rfl, by decide, by omega, HE1, HS, HBS.out⟩, by simp [intOf]⟩
            · obtain ⟨y0, y1, y2, y3, y4, y5, rfl⟩ := six_of HE.out.1
              obtain rfl : y3 = 0 := by have := HE.out.2.2 3 (by decide) (by decide); simpa using this
              obtain rfl : y4 = 0 := by have := HE.out.2.2 4 (by decide) (by decide); simpa using this
              obtain rfl : y5 = 0 := by have := HE.out.2.2 5 (by decide) (by decide); simpa using this
              have fa := (HD.out ⟨wr, below_then hB hBi⟩).2.2.2.2.1
              dsimp only at fa
              have xq := heapT_cell HX.out (k := 4) rfl
              have fz := HX.out.frozen 4
              have t1 : a3.tmod 7 = a3 % 7 := Int.tmod_eq_emod_of_nonneg q3.1
              have t2 := T2 a3 q3.1
              obtain ⟨V, hV⟩ : ∃ V, a3 % 7 % ((s : Int) + 1) = V := ⟨_, rfl⟩
              have hv := T3 a3
              rw [hV] at t2 hv
              have hv0 := hv.1
              have hv1 := hv.2
              have hE := HE.out
              have hset := HX.out.set 3 V
              have hBs : Below wo.heap.size wo ((wr.setCell ⟨wo.heap.size, 4, none⟩ (.int .u8 V))) := hBi.setCell (p := ⟨wo.heap.size, 4, none⟩) (Nat.le_refl _) _
              have HS := Lib.hid hset
              have HBS := Lib.hid hBs
              have HE1 : Hid (EV [y0, y1, y2, V, 0, 0] ∧ degE [y0, y1, y2, V, 0, 0] + ((s - V.toNat : Nat) : Int) = 6 ∧ ∀ j, 4 ≤ j → j < 6 → ([y0, y1, y2, V, 0, 0] : List Int)[j]? = some 0) := Lib.hid ⟨⟨rfl, by
                intro x hx
                have h0 := hE.1.2
                simp only [List.mem_cons, List.not_mem_nil, or_false] at hx h0
                rcases hx with rfl | rfl | rfl | rfl | rfl | rfl
                · exact h0 _ (by simp)
                · exact h0 _ (by simp)
                · exact h0 _ (by simp)
                · exact ⟨hv0, by omega⟩
                · decide
                · decide⟩, by
                have h0 := hE.2.1
                simp only [degE, List.sum_cons, List.sum_nil] at h0 ⊢
                omega, by
                intro j h1 h2
                rcases (show j = 4 ∨ j = 5 by omega) with rfl | rfl <;> rfl⟩
              clear hv hV HE hE hset hBs T2 T3
              go_wp2_with (fail)
              exact ⟨⟨4, s - V.toNat, _, by rw [show ((s - V.toNat : Nat) : Int) = (s : Int) - V by omega], rfl, by decide, by omega, HE1, HS, HBS.out⟩, by simp [intOf]⟩
            · obtain ⟨y0, y1, y2, y3, y4, y5, rfl⟩ := six_of HE.out.1
              obtain rfl : y4 = 0 := by have := HE.out.2.2 4 (by decide) (by decide); simpa using this
              obtain rfl : y5 = 0 := by have := HE.out.2.2 5 (by decide) (by decide); simpa using this
              have fa := (HD.out ⟨wr, below_then hB hBi⟩).2.2.2.2.2.1
              dsimp only at fa
              have xq := heapT_cell HX.out (k := 5) rfl
              have fz := HX.out.frozen 5
              have t1 : a4.tmod 7 = a4 % 7 := Int.tmod_eq_emod_of_nonneg q4.1
              have t2 := T2 a4 q4.1
              obtain ⟨V, hV⟩ : ∃ V, a4 % 7 % ((s : Int) + 1) = V := ⟨_, rfl⟩
              have hv := T3 a4
              rw [hV] at t2 hv
              have hv0 := hv.1
              have hv1 := hv.2
              have hE := HE.out
              have hset := HX.out.set 4 V
              have hBs : Below wo.heap.size wo ((wr.setCell ⟨wo.heap.size, 5, none⟩ (.int .u8 V))) := hBi.setCell (p := ⟨wo.heap.size, 5, none⟩) (Nat.le_refl _) _
              have HS := Lib.hid hset
              have HBS := Lib.hid hBs
              have HE1 : Hid (EV [y0, y1, y2, y3, V, 0] ∧ degE [y0, y1, y2, y3, V, 0] + ((s - V.toNat : Nat) : Int) = 6 ∧ ∀ j, 5 ≤ j → j < 6 → ([y0, y1, y2, y3, V, 0] : List Int)[j]? = some 0) := Lib.hid ⟨⟨rfl, by
                intro x hx
                have h0 := hE.1.2
                simp only [List.mem_cons, List.not_mem_nil, or_false] at hx h0
                rcases hx with rfl | rfl | rfl | rfl | rfl | rfl
                · exact h0 _ (by simp)
                · exact h0 _ (by simp)
                · exact h0 _ (by simp)
                · exact h0 _ (by simp)
                · exact ⟨hv0, by omega⟩
                · decide⟩, by
                have h0 := hE.2.1
                simp only [degE, List.sum_cons, List.sum_nil] at h0 ⊢
                omega, by
                intro j h1 h2
                rcases (show j = 5 by omega) with rfl <;> rfl⟩
              clear hv hV HE hE hset hBs T2 T3
              go_wp2_with (fail)
              exact ⟨⟨5, s - V.toNat, _, by rw [show ((s - V.toNat : Nat) : Int) = (s : Int) - V by omega], rfl, by decide, by omega, HE1, HS, HBS.out⟩, by simp [intOf]⟩
            · obtain ⟨y0, y1, y2, y3, y4, y5, rfl⟩ := six_of HE.out.1
              obtain rfl : y5 = 0 := by have := HE.out.2.2 5 (by decide) (by decide); simpa using this
              have fa := (HD.out ⟨wr, below_then hB hBi⟩).2.2.2.2.2.2
              dsimp only at fa
              have xq := heapT_cell HX.out (k := 6) rfl
              have fz := HX.out.frozen 6
              have t1 : a5.tmod 7 = a5 % 7 := Int.tmod_eq_emod_of_nonneg q5.1
              have t2 := T2 a5 q5.1
              obtain ⟨V, hV⟩ : ∃ V, a5 % 7 % ((s : Int) + 1) = V := ⟨_, rfl⟩
              have hv := T3 a5
              rw [hV] at t2 hv
              have hv0 := hv.1
              have hv1 := hv.2
              have hE := HE.out
              have hset := HX.out.set 5 V
              have hBs : Below wo.heap.size wo ((wr.setCell ⟨wo.heap.size, 6, none⟩ (.int .u8 V))) := hBi.setCell (p := ⟨wo.heap.size, 6, none⟩) (Nat.le_refl _) _
              have HS := Lib.hid hset
              have HBS := Lib.hid hBs
              have HE1 : Hid (EV [y0, y1, y2, y3, y4, V] ∧ degE [y0, y1, y2, y3, y4, V] + ((s - V.toNat : Nat) : Int) = 6 ∧ ∀ j, 6 ≤ j → j < 6 → ([y0, y1, y2, y3, y4, V] : List Int)[j]? = some 0) := Lib.hid ⟨⟨rfl, by
                intro x hx
                have h0 := hE.1.2
                simp only [List.mem_cons, List.not_mem_nil, or_false] at hx h0
                rcases hx with rfl | rfl | rfl | rfl | rfl | rfl
                · exact h0 _ (by simp)
                · exact h0 _ (by simp)
                · exact h0 _ (by simp)
                · exact h0 _ (by simp)
                · exact h0 _ (by simp)
                · exact ⟨hv0, by omega⟩⟩, by
                have h0 := hE.2.1
                simp only [degE, List.sum_cons, List.sum_nil] at h0 ⊢
                omega, by
                intro j h1 h2
                exact absurd h1 (by omega)⟩
              clear hv hV HE hE hset hBs T2 T3
              go_wp2_with (fail)
              exact ⟨⟨6, s - V.toNat, _, by rw [show ((s - V.toNat : Nat) : Int) = (s : Int) - V by omega], rfl, by decide, by omega, HE1, HS, HBS.out⟩, by simp [intOf]⟩
          · obtain rfl : q = 6 := by omega
            obtain ⟨y0, y1, y2, y3, y4, y5, rfl⟩ := six_of HE.out.1
            have c0 : wr.cell? ⟨wo.heap.size, 0, none⟩ = some (.int .i64 C) := heapT_cell HX.out rfl
            have c1 : wr.cell? ⟨wo.heap.size, 1, none⟩ = some (.int .u8 y0) := heapT_cell HX.out rfl
            have c2 : wr.cell? ⟨wo.heap.size, 2, none⟩ = some (.int .u8 y1) := heapT_cell HX.out rfl
            have c3 : wr.cell? ⟨wo.heap.size, 3, none⟩ = some (.int .u8 y2) := heapT_cell HX.out rfl
            have c4 : wr.cell? ⟨wo.heap.size, 4, none⟩ = some (.int .u8 y3) := heapT_cell HX.out rfl
            have c5 : wr.cell? ⟨wo.heap.size, 5, none⟩ = some (.int .u8 y4) := heapT_cell HX.out rfl
            have c6 : wr.cell? ⟨wo.heap.size, 6, none⟩ = some (.int .u8 y5) := heapT_cell HX.out rfl
            have hBw := below_then hB hBi
            have HTw := Lib.hid (HT.out.grow hBi)
            have hn := HN.out
            unfold Num at hn
            have hxv : TV (C, [y0, y1, y2, y3, y4, y5]) ∧ Small62 (C, [y0, y1, y2, y3, y4, y5]) := ⟨⟨HE.out.1, by dsimp only; omega, by dsimp only; omega⟩, by unfold Small62; dsimp only; omega⟩
            have HXV := Lib.hid hxv
            rw [show ((6 : Nat) : Int) = 6 from rfl]
            clear hn hxv
            by_cases hC : C = 0
            · have hC' : (C != 0) = false := by simpa using hC
              clear hC
              go_wp2_with (fail)
              exact ⟨⟨m, k + 1, by go_num, by omega, HG, HTw, ⟨_, _, _, _, rfl, hcap⟩, hBw⟩, by simp [intOf]; omega⟩
            · have hC' : (C != 0) = true := by simpa using hC
              clear hC
              have HI := insert_ok b o c' m (C, [y0, y1, y2, y3, y4, y5]) wr HTw.out hcap (good_small HG.out) HXV.out (by have := HG.out.1.2.1; omega)
              rw [show valT (C, [y0, y1, y2, y3, y4, y5]) = .agg #[.int .i64 C, .int .u8 y0, .int .u8 y1, .int .u8 y2, .int .u8 y3, .int .u8 y4, .int .u8 y5] from rfl] at HI
              have htv := Lib.hid (ins_tv HXV.out (good_small HG.out))
              obtain ⟨J, hJ⟩ : ∃ J, insT (C, [y0, y1, y2, y3, y4, y5]) m = J := ⟨_, rfl⟩
              have hgi : VP J → Good5 most J := fun h => by rw [← hJ]; exact good_ins HG.out hlm HXV.out (by rw [hJ]; exact h)
              have HGI := Lib.hid hgi
              rw [hJ] at HI htv
              have HI' := Lib.hid HI
              clear HI hJ hgi
              go_wp2_with (fail)
              refine HI'.out.mono ?_
              rintro e w' ⟨r, rfl, h5, h6, h7, h8⟩
              have hB2 := below_then hBw h8
              have HJ := Lib.hid h5
              by_cases hv : VP J
              · have HV5 := Lib.hid (r5valid_ok r J true w' h5 htv.out ⟨fun _ => hv, fun _ => rfl⟩)
                have HGJ := Lib.hid (HGI.out hv)
                clear hv h5 h7
                go_wp2_with (fail)
                refine HV5.out.mono ?_
                rintro e w2 ⟨rfl, h9⟩
                have HJ2 := Lib.hid (HJ.out.grow h9)
                go_wp2_with (fail)
                exact ⟨⟨J, k + 1, by go_num, by omega, HGJ, HJ2, h6, below_then hB2 h9⟩, by simp [intOf]; omega⟩
              · have HV5 := Lib.hid (r5valid_ok r J false w' h5 htv.out ⟨fun h => absurd h (by decide), fun h => absurd h hv⟩)
                clear hv h5 h7
                go_wp2_with (fail)
                refine HV5.out.mono ?_
                rintro e w2 ⟨rfl, h9⟩
                have hB3 := h8.trans (h9.mono h8.size)
                have HM2 := Lib.hid (HTw.out.grow hB3)
                go_wp2_with (fail)
                exact ⟨⟨m, k + 1, by go_num, by omega, HG, HM2, ⟨_, _, _, _, rfl, hcap⟩, below_then hB2 h9⟩, by simp [intOf]; omega⟩
      · have HTw := HT
        go_wp2_with (fail)
        go_ret
        exact ⟨_, rfl, m, HTw.out, ⟨_, _, _, _, rfl, hcap⟩, HG.out, hB⟩
    · have i1 : ¬ (k : Int) < l.length := by omega
      go_wp2_with (fail)
      go_ret
      exact ⟨_, rfl, m, HT.out, ⟨_, _, _, _, rfl, hcap⟩, HG.out, hB⟩
end Go.Proofs.YthakeeinhgfbbaaGreat

namespace Go.Proofs.YthakeeinhgfbbaaGreat
open Go.ChangeShapes Go.WideShapes Go.ChangeAt Go.RowKit
set_option linter.unusedVariables false
set_option linter.unusedSimpArgs false
set_option maxRecDepth 100000

attribute [local irreducible] Calls
def SGood (most : Int) (u : Value) (W : World) : Prop := ∃ m, Tx W u m ∧ SomeS u ∧ Good5 most m
theorem steady_good (most : Int) : Steady (SGood most) := fun v w1 w2 hb ⟨m, h1, h2, h3⟩ => ⟨m, h1.grow hb, h2, h3⟩
theorem SomeS.cap {v : Value} (h : SomeS v) : CapOk v := by
  obtain ⟨b, o, n, c, rfl, h1⟩ := h
  exact ⟨_, _, _, rfl, h1, fun h => by cases h⟩
end Go.Proofs.YthakeeinhgfbbaaGreat

namespace Go.Proofs.YthakeeinhgfbbaaGreat
open Go.ChangeShapes Go.WideShapes Go.ChangeAt Go.RowKit
set_option linter.unusedVariables false
set_option linter.unusedSimpArgs false
set_option maxRecDepth 100000

section
variable {H : Type} {enc : TypeId × Value → H} {w : World} {base : Nat} {spare : Nat → Bool} {held : Bool}
theorem wf64t {x : Int} (h : (Lit.int .i64 x).wf = true) : -9223372036854775808 ≤ x ∧ x ≤ 9223372036854775807 := by
  have a := bounds_i64 h
  exact ⟨a.1, by have := a.2; omega⟩
theorem wf8t {x : Int} (h : (Lit.int .u8 x).wf = true) : 0 ≤ x ∧ x ≤ 255 := by
  have a := bounds_u8 h
  exact ⟨a.1, by have := a.2; omega⟩
theorem cell_blkT {w : World} {a : Addr} {v : Value} (h : w.cell? a = some v) : a.block < w.heap.size ∧ a.spot = none := by
  unfold World.cell? at h
  split at h
  · rename_i hh
    refine ⟨(Array.getElem?_eq_some_iff.1 hh).1, ?_⟩
    split at h
    · cases h
    · rename_i hs
      simpa using hs
  · cases h
theorem add_spot (a : Addr) (n : Nat) (h : a.spot = none) : a.add n = ⟨a.block, a.off + n, none⟩ := by
  obtain ⟨b, o, s⟩ := a
  simp only at h
  subst h
  by_cases hz : n = 0 <;> simp [Addr.add, hz]
/-- A slice of terms, as an argument is read. -/
theorem tx_read {fuel : Nat} {c : Value} {y : DataW H × List MemPlace} (h : DataW.trod enc Tryz.prog w base spare held fuel 22 [c] = some y) : ∃ l : List Tm, Tx w c l ∧ ∀ t ∈ l, TV t := by
  have h2 : Tryz.prog.cellsOf 63 = 7 := by kernel_rfl
  have h1 : Tryz.prog.cellsOf 2 = 1 := by kernel_rfl
  have h3 : Tryz.prog.cellsOf 61 = 6 := by kernel_rfl
  have h4 : Tryz.prog.cellsOf 5 = 1 := by kernel_rfl
  rcases Go.Deep.open_slice Tryz.underlying22 h with ⟨hc, _⟩ | ⟨a, len, cap, m, n, D, Pl, hc, _, hl, hm, hmm, _, hi⟩
  · obtain rfl : c = .slice none 0 0 := by simpa using hc
    exact ⟨[], Tx.nil _ _ _, fun p hp => by simp at hp⟩
  · obtain rfl : c = .slice (some a) len cap := by simpa using hc
    rw [h2] at hi
    have hlm : len ≤ m := by rw [hmm]; split <;> omega
    have hel : ∀ i, i < len → ∃ x : Tm, TV x ∧ ∀ j u, (encT x)[j]? = some u → w.cell? (a.add (i * 7 + j)) = some u := fun i hil => by
      obtain ⟨cs, hcs, ht⟩ := hi i (by omega)
      obtain ⟨_, hcl, hat⟩ := World.cells?_some hcs
      obtain ⟨y0, y1, n', _, _, t0, t1⟩ := trod_struct2 Tryz.underlying63 ht
      obtain ⟨k, e0, _, w0⟩ := DataW.trod_int Tryz.underlying2 t0
      obtain ⟨xs, m', _, _, _, hxl, hx⟩ := DataW.trod_array Tryz.underlying61 t1
      match cs, hcl with
      | [c0, c1, c2, c3, c4, c5, c6], _ =>
        match xs, hxl with
        | [z0, z1, z2, z3, z4, z5], _ =>
          have j0 := hx 0 (by omega)
          have j1 := hx 1 (by omega)
          have j2 := hx 2 (by omega)
          have j3 := hx 3 (by omega)
          have j4 := hx 4 (by omega)
          have j5 := hx 5 (by omega)
          simp [h4, h3] at j0 j1 j2 j3 j4 j5
          obtain ⟨x0, f0, _, v0⟩ := DataW.trod_int Tryz.underlying5 j0
          obtain ⟨x1, f1, _, v1⟩ := DataW.trod_int Tryz.underlying5 j1
          obtain ⟨x2, f2, _, v2⟩ := DataW.trod_int Tryz.underlying5 j2
          obtain ⟨x3, f3, _, v3⟩ := DataW.trod_int Tryz.underlying5 j3
          obtain ⟨x4, f4, _, v4⟩ := DataW.trod_int Tryz.underlying5 j4
          obtain ⟨x5, f5, _, v5⟩ := DataW.trod_int Tryz.underlying5 j5
          simp [h1] at e0 f0 f1 f2 f3 f4 f5
          subst e0 f0 f1 f2 f3 f4 f5
          refine ⟨(k, [x0, x1, x2, x3, x4, x5]), ⟨⟨rfl, ?_⟩, wf64t w0⟩, fun j u hu => ?_⟩
          · intro x hx'
            simp only [List.mem_cons, List.not_mem_nil, or_false] at hx'
            rcases hx' with rfl | rfl | rfl | rfl | rfl | rfl
            · exact wf8t v0
            · exact wf8t v1
            · exact wf8t v2
            · exact wf8t v3
            · exact wf8t v4
            · exact wf8t v5
          · have hj : j < 7 := by
              have := (List.getElem?_eq_some_iff.1 hu).1
              simpa [encT] using this
            have q := hat j (by omega)
            rw [Go.Deep.add_add] at q
            rw [q, ← hu]
            rfl
    have hex : ∃ f : Nat → Tm, ∀ i, i < len → TV (f i) ∧ ∀ j u, (encT (f i))[j]? = some u → w.cell? (a.add (i * 7 + j)) = some u :=
      ⟨fun i => if h : i < len then (hel i h).choose else (0, []), fun i h => by simp only [h, dif_pos]; exact (hel i h).choose_spec⟩
    obtain ⟨f, hf⟩ := hex
    refine ⟨(List.range len).map f, ⟨by simp; omega, some a, cap, by simp, fun k x hx => ?_⟩, fun p hp => ?_⟩
    · have hk : k < len := by
        have := (List.getElem?_eq_some_iff.1 hx).1
        simpa using this
      obtain rfl : f k = x := by
        rw [List.getElem?_map, List.getElem?_range hk] at hx
        simpa using hx
      obtain ⟨hv, hcell⟩ := hf k hk
      have q0 := (hf 0 (by omega)).2 0 _ rfl
      have hs : a.spot = none := by
        have := (cell_blkT q0).2
        simpa [Addr.add] using this
      have hb : a.block < w.heap.size := by
        have := (cell_blkT q0).1
        rw [add_spot a _ hs] at this
        exact this
      refine ⟨a.block, a.off, ?_, hb, fun j u hu => ?_⟩
      · obtain ⟨b, o, sp⟩ := a
        simp only at hs
        subst hs
        rfl
      · have q := hcell j u hu
        rw [add_spot a _ hs] at q
        rw [Nat.add_assoc]
        exact q
    · obtain ⟨i, hi', rfl⟩ := List.mem_map.1 hp
      exact (hf i (List.mem_range.1 hi')).1
theorem wf8i {x : Int} (h : (Lit.int .i8 x).wf = true) : -128 ≤ x ∧ x ≤ 127 := by
  have a : IntKind.has .i8 x := by simpa [Lit.wf, IntKind.has] using h
  unfold IntKind.has at a
  rw [show IntKind.i8.min = -128 by decide, show IntKind.i8.max = 127 by decide] at a
  exact a
end
end Go.Proofs.YthakeeinhgfbbaaGreat
