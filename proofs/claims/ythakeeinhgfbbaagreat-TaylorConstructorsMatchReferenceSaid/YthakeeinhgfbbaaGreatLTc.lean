/-
  The law TaylorConstructorsMatchReference.
-/
import Derived.Deep.Slices
import Derived.Deep.Fields
import Derived.ChangeSame
import Derived.OpenShut
import Derived.Test.YthakeeinhgfbbaaGreatSan6
import Derived.Test.YthakeeinhgfbbaaGreatYl
import Derived.Test.YthakeeinhgfbbaaGreatZa
namespace Go.Proofs.YthakeeinhgfbbaaGreat
open Go.ChangeShapes Go.WideShapes Go.ChangeAt Go.RowKit
set_option linter.unusedVariables false
set_option linter.unusedSimpArgs false
set_option maxRecDepth 100000
attribute [local irreducible] Calls
section
variable {H : Type} {enc : TypeId × Value → H} {w : World} {base : Nat} {spare : Nat → Bool} {held : Bool}
theorem cell_blk6 {w : World} {a : Addr} {v : Value} (h : w.cell? a = some v) : a.block < w.heap.size ∧ a.spot = none := by
  unfold World.cell? at h
  split at h
  · rename_i hh
    refine ⟨(Array.getElem?_eq_some_iff.1 hh).1, ?_⟩
    split at h
    · cases h
    · rename_i hs
      simpa using hs
  · cases h
/-- A slice of intervals, as an argument is read. -/
theorem bx_read6 {fuel : Nat} {c : Value} {y : DataW H × List MemPlace} (h : DataW.trod enc Tryz.prog w base spare held fuel 44 [c] = some y) : ∃ l : List (Int × Int), Bx w c l ∧ (∀ p ∈ l, (-9223372036854775808 ≤ p.1 ∧ p.1 ≤ 9223372036854775807) ∧ -9223372036854775808 ≤ p.2 ∧ p.2 ≤ 9223372036854775807) := by
  have h2 : Tryz.prog.cellsOf 24 = 2 := by kernel_rfl
  have h1 : Tryz.prog.cellsOf 2 = 1 := by kernel_rfl
  rcases Go.Deep.open_slice Tryz.underlying44 h with ⟨hc, _⟩ | ⟨a, len, cap, m, n, D, Pl, hc, _, hl, hm, hmm, _, hi⟩
  · obtain rfl : c = .slice none 0 0 := by simpa using hc
    exact ⟨[], Bx.nil, fun p hp => by simp at hp⟩
  · obtain rfl : c = .slice (some a) len cap := by simpa using hc
    rw [h2] at hi
    have hlm : len ≤ m := by rw [hmm]; split <;> omega
    have hel : ∀ i, i < len → ∃ x : Int × Int, (w.cell? (a.add (i * 2)) = some (.int .i64 x.1) ∧ w.cell? (a.add (i * 2 + 1)) = some (.int .i64 x.2)) ∧ (-9223372036854775808 ≤ x.1 ∧ x.1 ≤ 9223372036854775807) ∧ -9223372036854775808 ≤ x.2 ∧ x.2 ≤ 9223372036854775807 := fun i hil => by
      obtain ⟨cs, hcs, ht⟩ := hi i (by omega)
      obtain ⟨_, hcl, hat⟩ := World.cells?_some hcs
      obtain ⟨y0, y1, n', _, _, t0, t1⟩ := trod_struct2 Tryz.underlying24 ht
      obtain ⟨x0, e0, _, w0⟩ := DataW.trod_int Tryz.underlying2 t0
      obtain ⟨x1, e1, _, w1⟩ := DataW.trod_int Tryz.underlying2 t1
      match cs, hcl with
      | [c0, c1], _ =>
        have q0 := hat 0 (by omega)
        have q1 := hat 1 (by omega)
        rw [Go.Deep.add_add] at q0 q1
        simp [h1] at e0 e1 q0 q1
        subst e0 e1
        exact ⟨(x0, x1), ⟨q0, q1⟩, wf64t w0, wf64t w1⟩
    have hex : ∃ f : Nat → Int × Int, ∀ i, i < len → (w.cell? (a.add (i * 2)) = some (.int .i64 (f i).1) ∧ w.cell? (a.add (i * 2 + 1)) = some (.int .i64 (f i).2)) ∧ (-9223372036854775808 ≤ (f i).1 ∧ (f i).1 ≤ 9223372036854775807) ∧ -9223372036854775808 ≤ (f i).2 ∧ (f i).2 ≤ 9223372036854775807 :=
      ⟨fun i => if h : i < len then (hel i h).choose else (0, 0), fun i h => by simp only [h, dif_pos]; exact (hel i h).choose_spec⟩
    obtain ⟨f, hf⟩ := hex
    refine ⟨(List.range len).map f, ⟨by simp; omega, some a, cap, by simp, fun k x hx => ?_⟩, fun p hp => ?_⟩
    · have hk : k < len := by
        have := (List.getElem?_eq_some_iff.1 hx).1
        simpa using this
      obtain rfl : f k = x := by
        rw [List.getElem?_map, List.getElem?_range hk] at hx
        simpa using hx
      have hs : a.spot = none := by
        have := (cell_blk6 (hf 0 (by omega)).1.1).2
        simpa [Addr.add] using this
      obtain ⟨⟨q0, q1⟩, _⟩ := hf k hk
      have hb := (cell_blk6 q1).1
      obtain ⟨b, o, sp⟩ := a
      simp only at hs
      subst hs
      refine ⟨b, o, rfl, ?_, ?_, ?_⟩
      · simpa [Addr.add] using hb
      · by_cases hz : k = 0
        · subst hz
          simpa [Addr.add] using q0
        · have : k * 2 ≠ 0 := by omega
          simpa only [Addr.add, if_neg this] using q0
      · simpa [Addr.add, Nat.add_assoc] using q1
    · obtain ⟨i, hi', rfl⟩ := List.mem_map.1 hp
      exact (hf i (List.mem_range.1 hi')).2
theorem open_model6 {r : Reach} {b0 : Nat} {v : Value} {d : DataW H} {p : List MemPlace} (hv : Value.okWide Tryz.prog w r b0 26 v) (h : DataW.Trod enc Tryz.prog w base spare held 26 v d p) :
    ∃ (vM : Value) (x y : Int) (l : List Tm), v = .agg #[vM, .int .i64 x, .int .i64 y] ∧ (Tx w vM l ∧ ∀ t ∈ l, TV t) ∧ (-9223372036854775808 ≤ x ∧ x ≤ 9223372036854775807) ∧ -9223372036854775808 ≤ y ∧ y ≤ 9223372036854775807 := by
  obtain ⟨cs, rfl, hsz⟩ := okWide_struct Tryz.underlying26 hv
  obtain ⟨l⟩ := cs
  match l, hsz.trans (show Tryz.prog.cellsOf 26 = 3 by kernel_rfl) with
  | [c0, c1, c2], _ =>
    obtain ⟨fuel, hf⟩ := h
    obtain ⟨l, x, y, rfl, rfl, h1, h2, h3⟩ := mo_read hf
    exact ⟨c0, x, y, l, rfl, h1, h2, h3⟩
theorem open_ivs6 {r : Reach} {b0 : Nat} {v : Value} {d : DataW H} {p : List MemPlace} (hv : Value.okWide Tryz.prog w r b0 44 v) (h : DataW.Trod enc Tryz.prog w base spare held 44 v d p) :
    ∃ l : List (Int × Int), Bx w v l ∧ ∀ p ∈ l, (-9223372036854775808 ≤ p.1 ∧ p.1 ≤ 9223372036854775807) ∧ -9223372036854775808 ≤ p.2 ∧ p.2 ≤ 9223372036854775807 := by
  obtain ⟨a, len, cap, rfl⟩ := okWide_slice Tryz.underlying44 hv
  obtain ⟨fuel, hf⟩ := h
  exact bx_read6 hf
end
attribute [local go_sem ↓] run_max_two run_min_two run_max_three
def wuI (p : Int × Int) : Int × Int := (min (p.1.tmod 65536) (p.2.tmod 65536), max (p.1.tmod 65536) (p.2.tmod 65536))
theorem wu_vb (p : Int × Int) : VB2 (wuI p) := by
  have h1 := Int.lt_tmod_of_pos p.1 (show (0 : Int) < 65536 by decide)
  have h2 := Int.tmod_lt_of_pos p.1 (show (0 : Int) < 65536 by decide)
  have h3 := Int.lt_tmod_of_pos p.2 (show (0 : Int) < 65536 by decide)
  have h4 := Int.tmod_lt_of_pos p.2 (show (0 : Int) < 65536 by decide)
  unfold wuI VB2 VI Num
  dsimp only
  right
  omega
set_option maxHeartbeats 4000000 in
theorem within_ok (a b : Int) (w : World) :
    Calls Tryz.prog 32 #[.agg #[.int .i64 a, .int .i64 b]] w fun e w' => e = .returned (.agg #[.int .i64 (wuI (a, b)).1, .int .i64 (wuI (a, b)).2]) ∧ Below w.heap.size w w' := by
  unfold wuI
  dsimp only
  obtain ⟨x, hx⟩ : ∃ x, a.tmod 65536 = x := ⟨_, rfl⟩
  obtain ⟨y, hy⟩ : ∃ y, b.tmod 65536 = y := ⟨_, rfl⟩
  rw [hx, hy]
  have hba : Below w.heap.size w ((w.alloc (.cells #[.int .i64 a, .int .i64 b] 24)).alloc (.cells #[.int .i64 0, .int .i64 0] 24)) := ((Below.refl _ _).alloc (Nat.le_refl _) _).alloc (by simp) _
  have hc1 : IvC ((w.alloc (.cells #[.int .i64 a, .int .i64 b] 24)).alloc (.cells #[.int .i64 0, .int .i64 0] 24)) (w.heap.size + 1) (0, 0) := by
    have e := IvC.new (w.alloc (.cells #[.int .i64 a, .int .i64 b] 24)) 0 0
    simp only [World.size_alloc] at e
    exact e
  have hc0 : IvC ((w.alloc (.cells #[.int .i64 a, .int .i64 b] 24)).alloc (.cells #[.int .i64 0, .int .i64 0] 24)) w.heap.size (a, b) := (IvC.new w a b).alloc _
  have HC0 := Lib.hid hc0
  have HC1 := Lib.hid hc1
  have HBA := Lib.hid hba
  clear hba hc0 hc1
  go_enter Tryz.func32, Tryz.ntmps32
  go_wp2_with (fail)
  generalize hW0 : World.alloc (World.alloc w _) _ = W0 at *
  clear hW0
  have k0 := HC0.out.c0
  have k1 := HC0.out.c1
  have q0 := HC1.out.c0
  have q1 := HC1.out.c1
  have z0 := HC1.out.frozen 0
  have z1 := HC1.out.frozen 1
  dsimp only at k0 k1 q0 q1
  go_wp2_with (fail)
  refine bodyPost_ret (v := .agg #[.int .i64 (min x y), .int .i64 (max x y)]) (by simp [results, Tryz.results32, go_sem, q0, q1]) rfl ⟨rfl, ?_⟩
  exact ((Below.refl _ _).alloc (Nat.le_refl _) _).alloc (by simp) _
def wuA (l : List (Int × Int)) (k : Nat) : Int × Int := match l[k]? with | some p => wuI p | none => (0, 0)
def boxU (l : List (Int × Int)) : List (Int × Int) := (List.range 6).map (wuA l)
theorem boxU_snoc (l : List (Int × Int)) {k : Nat} (h : k < 6) : (boxU l).take (k + 1) = (boxU l).take k ++ [wuA l k] := by
  unfold boxU
  rw [List.take_add_one, List.getElem?_map, List.getElem?_range h]
  rfl
theorem boxU_vb (l : List (Int × Int)) : ∀ p ∈ boxU l, VB2 p := fun p hp => by
  obtain ⟨k, _, rfl⟩ := List.mem_map.1 hp
  unfold wuA
  split
  · exact wu_vb _
  · exact .inr ⟨by unfold Num; decide, by unfold Num; decide, Int.le_refl _⟩
theorem ivc_set2c {W : World} {b : Nat} {p : Int × Int} (hm : IvC W b p) (x y : Int) : IvC ((W.setCell ⟨b, 0, none⟩ (.int .i64 x)).setCell ⟨b, 1, none⟩ (.int .i64 y)) b (x, y) := ivc_set2 hm x y
def MoP (x y : Int) (l : List Tm) (z : Value) (w : World) : Prop := ∃ p n c, z = .agg #[.slice p n c, .int .i64 x, .int .i64 y] ∧ Tx w (.slice p n c) l
theorem mop_steady (x y : Int) (l : List Tm) : Steady (MoP x y l) := fun u w1 w2 hb h => by
  obtain ⟨p, n, c, e, h1⟩ := h
  exact ⟨p, n, c, e, h1.grow hb⟩
theorem mop_mk {x y : Int} {l : List Tm} {r : Value} {w : World} (h : Tx w r l) : MoP x y l (.agg #[r, .int .i64 x, .int .i64 y]) w := by
  obtain ⟨p, c, e⟩ := h.cut
  subst e
  exact ⟨p, _, c, rfl, h⟩
theorem same_yes (u v : Value) (x y : Int) (l : List Tm) (w : World) (hu : Tx w u l) (hv : Tx w v l) (hl : ∀ t ∈ l, TV t) :
    Calls Tryz.prog 16 #[.agg #[u, .int .i64 x, .int .i64 y], .agg #[v, .int .i64 x, .int .i64 y]] w fun e w' => e = .returned (.bool true) ∧ Below w.heap.size w w' := by
  have h := rsame_ok u v x y x y l l w hu hv hl hl
  rw [beq_self_eq_true, beq_self_eq_true, decide_eq_true rfl] at h
  exact h
theorem const_tv {c0 c1 : Int} (h : VB2 (c0, c1)) : ∀ t ∈ (constM (c0, c1)).1, TV t := fun t ht => (const_six (mid_num h) t ht).1
theorem var_tv {k : Nat} {c0 c1 : Int} (hk : k < 6) (h : VB2 (c0, c1)) : ∀ t ∈ (varM k (c0, c1)).1, TV t := by
  by_cases hE : Ent c0 c1
  · obtain ⟨rfl, rfl⟩ := hE
    rw [varM_ent]
    simp
  · have un := (show Ent c0 c1 ∨ (Num c0 ∧ Num c1 ∧ c0 ≤ c1) from h).resolve_left hE
    obtain ⟨m1, m2, _, _⟩ := half_num un.1 un.2.1 un.2.2
    rw [varM_eq hk un.1 un.2.1 un.2.2]
    exact fun t ht => (var_six hk m1 m2 t ht).1
structure BuI (w : World) (c0 c1 p q : Int) (vA : Value) (B1 B2 B3 : Nat) (l : List (Int × Int)) (k : Nat) (u : Value) (W : World) : Prop where
  row : W.ownsRow B3 24 2 u k (cz ((boxU l).take k))
  iv : IvC W B1 (c0, c1)
  mo : MoC W B2 vA (p, q)
  bel : Below w.heap.size w W
  siz : B3 ≤ W.heap.size
set_option maxHeartbeats 128000000 in
theorem tcons (w : World) (a0_0 a0_1 : Int) (w0 : ∀ x ∈ [a0_0, a0_1], IntKind.has .i64 x) (a1 : Int) (w1 : (Lit.int .u8 a1).wf = true) (a2M : Value) (a2p a2q : Int) (a2l : List Tm) (h2M : Tx w a2M a2l ∧ ∀ t ∈ a2l, TV t) (h2p : -9223372036854775808 ≤ a2p ∧ a2p ≤ 9223372036854775807) (h2q : -9223372036854775808 ≤ a2q ∧ a2q ≤ 9223372036854775807) (a3 : Value) (a3l : List (Int × Int)) (w3 : Bx w a3 a3l ∧ ∀ p ∈ a3l, (-9223372036854775808 ≤ p.1 ∧ p.1 ≤ 9223372036854775807) ∧ -9223372036854775808 ≤ p.2 ∧ p.2 ≤ 9223372036854775807) :
    Calls Tryz.prog 4 #[.agg #[.int .i64 a0_0, .int .i64 a0_1], .int .u8 a1, .agg #[a2M, .int .i64 a2p, .int .i64 a2q], a3] w fun e w' => e = .returned (.bool true) ∧ Below w.heap.size w w' := by
  have b0 : -9223372036854775808 ≤ a0_0 ∧ a0_0 ≤ 9223372036854775807 := by
    have := w0 a0_0 (by simp)
    simpa [IntKind.has, IntKind.min, IntKind.max, IntKind.signed, IntKind.bits] using this
  have b1 : -9223372036854775808 ≤ a0_1 ∧ a0_1 ≤ 9223372036854775807 := by
    have := w0 a0_1 (by simp)
    simpa [IntKind.has, IntKind.min, IntKind.max, IntKind.signed, IntKind.bits] using this
  obtain ⟨i0, hi, hz0, hz1, hz2⟩ := info_parts info_iv
  obtain ⟨c0, c1, hc01, KI⟩ := r2made a0_0 a0_1 b0.1 b0.2 b1.1 b1.2
  have HK := Lib.hid KI
  have HV := Lib.hid hc01
  have bd := bounds_u8 w1
  have b10 : 0 ≤ a1 := bd.1
  have T6 : a1.tmod 6 = a1 % 6 := Int.tmod_eq_emod_of_nonneg b10
  obtain ⟨d, hd⟩ : ∃ d, a1 % 6 = d := ⟨_, rfl⟩
  have hd0 : 0 ≤ d := by omega
  have hd6 : d ≤ 5 := by omega
  rw [hd] at T6
  obtain ⟨kk, hkk⟩ : ∃ kk : Nat, d = kk := ⟨d.toNat, by omega⟩
  have hk6 : kk < 6 := by omega
  have Wd : IntKind.i64.wrap d = d := wrap_i64 _ (by omega) (by omega)
  obtain ⟨zM, dM, rfl⟩ := h2M.1.cut
  obtain ⟨z3, d3, rfl⟩ : ∃ p c, a3 = .slice p a3l.length c := ⟨_, _, w3.1.2.choose_spec.choose_spec.1⟩
  have h3m := w3.1.1
  unfold maxLen at h3m
  have HMD := Lib.hid (fun w h => made6_ok (.slice zM a2l.length dM) a2p a2q a2l w h h2M.2 h2p h2q)
  have HM0 := Lib.hid h2M.1
  have HL0 := Lib.hid w3.1
  have hba : Below w.heap.size w ((w.alloc (.cells #[.int .i64 a0_0, .int .i64 a0_1] 24)).alloc (.cells #[.slice zM a2l.length dM, .int .i64 a2p, .int .i64 a2q] 26)) := ((Below.refl _ _).alloc (Nat.le_refl _) _).alloc (by simp) _
  have hc0 : IvC ((w.alloc (.cells #[.int .i64 a0_0, .int .i64 a0_1] 24)).alloc (.cells #[.slice zM a2l.length dM, .int .i64 a2p, .int .i64 a2q] 26)) w.heap.size (a0_0, a0_1) := (IvC.new w a0_0 a0_1).alloc _
  have hc1 : MoC ((w.alloc (.cells #[.int .i64 a0_0, .int .i64 a0_1] 24)).alloc (.cells #[.slice zM a2l.length dM, .int .i64 a2p, .int .i64 a2q] 26)) (w.heap.size + 1) (.slice zM a2l.length dM) (a2p, a2q) := by
    have e := MoC.new (w.alloc (.cells #[.int .i64 a0_0, .int .i64 a0_1] 24)) (.slice zM a2l.length dM) a2p a2q
    rw [World.size_alloc] at e
    exact e
  have HC0 := Lib.hid hc0
  have HC1 := Lib.hid hc1
  have HBA := Lib.hid hba
  clear w0 w1 hd b10 b0 b1 hc01 KI bd h2M h2p h2q w3 hba hc0 hc1
  go_enter Tryz.func4, Tryz.ntmps4
  go_wp2_with (fail)
  generalize hW0 : World.alloc (World.alloc w _) _ = W0 at *
  clear hW0
  refine (sanity6 _).mono ?_
  rintro e w1 ⟨rfl, hB⟩
  replace HBA := Lib.hid (below_then HBA.out hB)
  replace HC0 := Lib.hid (HC0.out.grow hB)
  replace HC1 := Lib.hid (HC1.out.grow hB)
  clear hB
  have k0 := HC0.out.c0
  have k1 := HC0.out.c1
  dsimp only at k0 k1
  go_wp2_with (fail)
  refine (HK.out _).mono ?_
  rintro e w2 ⟨rfl, hB⟩
  have hg := (Below.refl w2.heap.size w2).alloc (Nat.le_refl _) (.cells #[.int .i64 c0, .int .i64 c1] 24)
  replace HBA := Lib.hid (below_then (below_then HBA.out hB) hg)
  replace HC1 := Lib.hid ((HC1.out.grow hB).grow hg)
  have HI := Lib.hid (IvC.new w2 c0 c1)
  clear hB hg k0 k1 HC0 HK
  obtain ⟨W2, hW2⟩ : ∃ W, w2.alloc (.cells #[.int .i64 c0, .int .i64 c1] 24) = W := ⟨_, rfl⟩
  rw [hW2] at HBA HC1 HI
  have k0 := HC1.out.c0
  have k1 := HC1.out.c1
  have k2 := HC1.out.c2
  dsimp only at k0 k1 k2
  go_wp2_with (fail)
  try rw [hW2]
  clear hW2
  refine (HMD.out _ (HM0.out.grow HBA.out)).mono ?_
  rintro e w3 ⟨ra, l, p, q, rfl, hx, hc, gd, hB⟩
  obtain ⟨pa, na, ca, rfl, hca1, hca2⟩ := hc
  have hg := (Below.refl w3.heap.size w3).alloc (Nat.le_refl _) (.cells #[.slice pa na ca, .int .i64 p, .int .i64 q] 26)
  have hg2 := hg.alloc (by simp) (.cells #[] 24)
  have HX := Lib.hid hx
  have HS0 := Lib.hid (show Below w3.heap.size w3 _ from hg2)
  have GD := Lib.hid gd
  have hsz := hB.size
  have hw3 : w.heap.size ≤ w3.heap.size := by have := HBA.out.size; omega
  have hil := HI.out.lt
  have HB0 : Hid (BuI w c0 c1 p q (.slice pa na ca) w2.heap.size w3.heap.size (w3.heap.size + 1) a3l 0 (.slice (some ⟨w3.heap.size + 1, 0, none⟩) 0 0) ((w3.alloc (.cells #[.slice pa na ca, .int .i64 p, .int .i64 q] 26)).alloc (.cells #[] 24))) := Lib.hid ⟨by
      have := own_emptyC (w3.alloc (.cells #[.slice pa na ca, .int .i64 p, .int .i64 q] 26))
      rw [World.size_alloc] at this
      exact this, (HI.out.grow hB).grow hg2, (MoC.new w3 (.slice pa na ca) p q).alloc _, below_then (below_then HBA.out hB) hg2, by simp⟩
  have hlt12 : w2.heap.size < w3.heap.size := by omega
  clear hg hg2 hB k0 k1 k2 HC1 HMD HM0 hx gd HBA HI hca1 hca2 hil hsz
  go_wp2_with (fail)
  go_loopw [12, 13] (fun u i wr => ∃ k : Nat, i = .int .i64 k ∧ k ≤ 6 ∧ Hid (BuI w c0 c1 p q (.slice pa na ca) w2.heap.size w3.heap.size (w3.heap.size + 1) a3l k u wr) ∧ Below w3.heap.size w3 wr) (fun _ i _ => 6 - (intOf i).toNat)
  case atStart => exact ⟨0, rfl, by decide, HB0, HS0.out⟩
  case round =>
    clear HB0 HS0
    obtain ⟨k, rfl, hk, HR, HS⟩ := hrel
    have hsz := HR.out.siz
    by_cases hk6' : k < 6
    · have i1 : (k : Int) < 6 := by omega
      have hsn := boxU_snoc a3l hk6'
      have HSN := Lib.hid hsn
      clear hsn
      obtain ⟨W1, hW1⟩ : ∃ W, wr.alloc (.cells #[.int .i64 0, .int .i64 0] 24) = W := ⟨_, rfl⟩
      have J1 : IvC W1 wr.heap.size (0, 0) := by rw [← hW1]; exact IvC.new wr 0 0
      have hB1 : Below wr.heap.size wr W1 := by rw [← hW1]; exact (Below.refl _ _).alloc (Nat.le_refl _) _
      have x0 := J1.c0
      have x1 := J1.c1
      have y0 := J1.frozen 0
      have y1 := J1.frozen 1
      dsimp only at x0 x1
      obtain ⟨W2', hW2'⟩ : ∃ W, (W1.setCell ⟨wr.heap.size, 0, none⟩ (.int .i64 0)).setCell ⟨wr.heap.size, 1, none⟩ (.int .i64 0) = W := ⟨_, rfl⟩
      have J2 : IvC W2' wr.heap.size (0, 0) := by rw [← hW2']; exact ivc_set2 J1 0 0
      have hB2 : Below wr.heap.size wr W2' := by rw [← hW2']; exact (hB1.setCell (p := ⟨wr.heap.size, 0, none⟩) (Nat.le_refl _) _).setCell (p := ⟨wr.heap.size, 1, none⟩) (Nat.le_refl _) _
      have J2H := Lib.hid J2
      have HB2 := Lib.hid hB2
      by_cases hkl : k < a3l.length
      · have i2 : (k : Int) < a3l.length := by omega
        obtain ⟨⟨xa, xb⟩, hx⟩ : ∃ x, a3l[k]? = some x := ⟨_, List.getElem?_eq_getElem hkl⟩
        obtain ⟨b, o, rfl, hb, hcell⟩ := bx_rdY HL0.out hx
        have hBw : Below w.heap.size w W2' := HR.out.bel.trans (hB2.mono HR.out.bel.size)
        obtain ⟨f0, f1⟩ := hcell ⟨W2', hBw⟩
        dsimp only at f0 f1
        have hwu : wuA a3l k = wuI (xa, xb) := by unfold wuA; rw [hx]
        rw [hwu] at HSN
        have KW := Lib.hid (fun w => within_ok xa xb w)
        obtain ⟨⟨u0, u1⟩, hu⟩ : ∃ R, wuI (xa, xb) = R := ⟨_, rfl⟩
        rw [hu] at HSN KW
        dsimp only at KW
        clear hx hcell hwu hu J1 J2 hB1 hB2 hBw
        go_wp2_with (fail)
        try clear hW1 hW2'
        clear x0 x1 y0 y1 f0 f1
        refine (KW.out _).mono ?_
        rintro e w5 ⟨rfl, hB5⟩
        have J5 := J2H.out.grow hB5
        have hB25 : Below wr.heap.size wr w5 := HB2.out.trans (hB5.mono HB2.out.size)
        have x0 := J5.c0
        have x1 := J5.c1
        have y0 := J5.frozen 0
        have y1 := J5.frozen 1
        dsimp only at x0 x1
        obtain ⟨W6, hW6⟩ : ∃ W, (w5.setCell ⟨wr.heap.size, 0, none⟩ (.int .i64 u0)).setCell ⟨wr.heap.size, 1, none⟩ (.int .i64 u1) = W := ⟨_, rfl⟩
        have J6 : IvC W6 wr.heap.size (u0, u1) := by rw [← hW6]; exact ivc_set2 J5 u0 u1
        have hB6 : Below wr.heap.size wr W6 := by rw [← hW6]; exact (hB25.setCell (p := ⟨wr.heap.size, 0, none⟩) (Nat.le_refl _) _).setCell (p := ⟨wr.heap.size, 1, none⟩) (Nat.le_refl _) _
        have v0 := J6.c0
        have v1 := J6.c1
        dsimp only at v0 v1
        have hrow := (own_keptT HR.out.row hB6).alloc (.cells #[.int .i64 u0, .int .i64 u1] 24)
        have hs6 := hB6.size
        have HB6 := Lib.hid hB6
        clear J5 J6 hB25 hB6 J2H
        go_wp2_with (at_builtin; refine wpList_append_own _ rfl (.tmp 35) (.tmp 37) 44 rfl (w3.heap.size + 1) 24 i0 (.agg #[.int .i64 0, .int .i64 0]) 2 16 Tryz.underlying44 hi hz0 hz1 hz2 rfl (by decide) _ k _ rfl hrow ⟨W6.heap.size, 0, none⟩ 1 1 [.int .i64 u0, .int .i64 u1] rfl rfl (two_new W6 (.int .i64 u0) (.int .i64 u1) 24) (two_one _ _) (by unfold maxLen; omega) (by omega) (by simp; omega) ?_)
        intro v7 w7 hown7 hg7 _
        have hB7 : Below (w3.heap.size + 1) wr w7 := Below.grown ((HB6.out.mono hsz).alloc (by omega) _) hg7 (by simp; omega) (fun j hj => (hrow.lt j hj).1)
        have HNX : Hid (BuI w c0 c1 p q (.slice pa na ca) w2.heap.size w3.heap.size (w3.heap.size + 1) a3l (k + 1) v7 w7) := Lib.hid ⟨by rw [HSN.out, cz_snocY]; exact hown7, (hB7.block _ (by omega)).trans HR.out.iv, (hB7.block _ (by omega)).trans HR.out.mo, HR.out.bel.trans (hB7.mono (by omega)), Nat.le_trans hsz hB7.size⟩
        have HS7 := Lib.hid (HS.trans (hB7.mono (Nat.le_succ _)))
        clear hown7 hg7 hrow hB7
        go_wp2_with (fail)
        exact ⟨⟨k + 1, by go_num, by omega, HNX, HS7.out⟩, by simp [intOf]; omega⟩
      · have i2 : ¬ (k : Int) < a3l.length := by omega
        have hwu : wuA a3l k = (0, 0) := by unfold wuA; rw [List.getElem?_eq_none (Nat.le_of_not_lt hkl)]
        rw [hwu] at HSN
        have v0 := J2.c0
        have v1 := J2.c1
        dsimp only at v0 v1
        obtain ⟨W6, hW6⟩ : ∃ W, W2' = W := ⟨_, rfl⟩
        subst hW6
        have hrow := (own_keptT HR.out.row hB2).alloc (.cells #[.int .i64 0, .int .i64 0] 24)
        have hs6 := hB2.size
        have HB6 := HB2
        clear J1 J2 hB1 hB2 J2H hwu
        go_wp2_with (at_builtin; refine wpList_append_own _ rfl (.tmp 35) (.tmp 37) 44 rfl (w3.heap.size + 1) 24 i0 (.agg #[.int .i64 0, .int .i64 0]) 2 16 Tryz.underlying44 hi hz0 hz1 hz2 rfl (by decide) _ k _ rfl hrow ⟨W2'.heap.size, 0, none⟩ 1 1 [.int .i64 0, .int .i64 0] rfl rfl (two_new W2' (.int .i64 0) (.int .i64 0) 24) (two_one _ _) (by unfold maxLen; omega) (by omega) (by simp; omega) ?_)
        intro v7 w7 hown7 hg7 _
        have hB7 : Below (w3.heap.size + 1) wr w7 := Below.grown ((HB6.out.mono hsz).alloc (by omega) _) hg7 (by simp; omega) (fun j hj => (hrow.lt j hj).1)
        have HNX : Hid (BuI w c0 c1 p q (.slice pa na ca) w2.heap.size w3.heap.size (w3.heap.size + 1) a3l (k + 1) v7 w7) := Lib.hid ⟨by rw [HSN.out, cz_snocY]; exact hown7, (hB7.block _ (by omega)).trans HR.out.iv, (hB7.block _ (by omega)).trans HR.out.mo, HR.out.bel.trans (hB7.mono (by omega)), Nat.le_trans hsz hB7.size⟩
        have HS7 := Lib.hid (HS.trans (hB7.mono (Nat.le_succ _)))
        clear hown7 hg7 hrow hB7
        go_wp2_with (fail)
        exact ⟨⟨k + 1, by go_num, by omega, HNX, HS7.out⟩, by simp [intOf]; omega⟩
    · obtain rfl : k = 6 := by omega
      have hbx := Bx.own (l := boxU a3l) (by have := HR.out.row; rwa [List.take_of_length_le (by simp [boxU])] at this) (by simp [boxU, maxLen])
      have HBX := Lib.hid hbx
      clear hbx
      have i3 : ¬ ((6 : Nat) : Int) < 6 := by omega
      obtain ⟨pb, cb, hpb⟩ : ∃ p c, u12 = .slice p (boxU a3l).length c := ⟨_, _, HBX.out.2.choose_spec.choose_spec.1⟩
      subst hpb
      replace HX := Lib.hid (HX.out.grow HS)
      have tna := Lib.hid (goodm_tn GD.out)
      have lna : l.length ≤ 100 := goodm_len GD.out
      have va := Lib.hid GD.out.2.2.1
      have KEv := Lib.hid (fun w h1 h2 => teval_ok (.slice pa na ca) (.slice pb (boxU a3l).length cb) p q l (boxU a3l) w h1 tna.out lna va.out h2 (boxU_vb a3l))
      have REv := Lib.hid (fun w h1 h2 => reval6_ok (.slice pa na ca) (.slice pb (boxU a3l).length cb) p q l (boxU a3l) w h1 tna.out lna va.out h2 (boxU_vb a3l))
      have KCo := Lib.hid (fun w => tconst_ok c0 c1 w HV.out)
      have RCo := Lib.hid (fun w => rconst6_ok c0 c1 w HV.out)
      have KVa := Lib.hid (fun w => tvar_ok (kk : Int) c0 c1 w HV.out)
      have RVa := Lib.hid (fun w => rvar6_ok kk c0 c1 w hk6 HV.out)
      have TCo := Lib.hid (const_tv HV.out)
      have TVa := Lib.hid (var_tv hk6 HV.out)
      obtain ⟨⟨N, n0, n1⟩, hN⟩ : ∃ R, constM (c0, c1) = R := ⟨_, rfl⟩
      rw [hN] at KCo RCo TCo
      obtain ⟨⟨S, s0, s1⟩, hS⟩ : ∃ R, varM kk (c0, c1) = R := ⟨_, rfl⟩
      rw [hS] at KVa RVa TVa
      obtain ⟨⟨g0, g1⟩, hG⟩ : ∃ R, evalM (l, (p, q)) (boxU a3l) = R := ⟨_, rfl⟩
      rw [hG] at KEv REv
      rw [← hkk] at KVa RVa
      dsimp only at KCo RCo KVa RVa KEv REv
      have YN := Lib.hid (fun (u v : Value) w h1 h2 => same_yes u v n0 n1 N w h1 h2 TCo.out)
      have YS := Lib.hid (fun (u v : Value) w h1 h2 => same_yes u v s0 s1 S w h1 h2 TVa.out)
      have HI := Lib.hid HR.out.iv
      have HM := Lib.hid HR.out.mo
      have HT1 := Lib.hid HR.out.bel
      clear hN hS hG hkk HR TCo TVa tna lna va GD HV hk6
      go_wp2_with (fail)
      have k0 := fun g : Grown wr => (HM.out.grow g.h).c0
      have k1 := fun g : Grown wr => (HM.out.grow g.h).c1
      have k2 := fun g : Grown wr => (HM.out.grow g.h).c2
      have l0 := fun g : Grown wr => (HI.out.grow g.h).c0
      have l1 := fun g : Grown wr => (HI.out.grow g.h).c1
      dsimp only at k0 k1 k2 l0 l1
      refine region_pred (lk [(39, fun z_ _ => z_ = .bool true), (40, fun z_ _ => z_ = .bool true), (41, fun z_ _ => z_ = .agg #[.int .i64 c0, .int .i64 c1]), (42, MoP n0 n1 N), (43, fun z_ _ => z_ = .agg #[.int .i64 c0, .int .i64 c1]), (44, MoP n0 n1 N), (45, fun z_ _ => z_ = .bool true), (46, fun z_ _ => z_ = .bool true), (47, fun z_ _ => z_ = .bool true), (48, fun z_ _ => z_ = .int .u8 a1), (49, fun z_ _ => z_ = .int .u8 d), (50, fun z_ _ => z_ = .int .i64 d), (51, fun z_ _ => z_ = .agg #[.int .i64 c0, .int .i64 c1]), (52, MoP s0 s1 S), (53, fun z_ _ => z_ = .int .u8 a1), (54, fun z_ _ => z_ = .int .u8 d), (55, fun z_ _ => z_ = .int .i64 d), (56, fun z_ _ => z_ = .agg #[.int .i64 c0, .int .i64 c1]), (57, MoP s0 s1 S), (58, fun z_ _ => z_ = .bool true), (59, fun z_ _ => z_ = .bool true), (60, fun z_ _ => z_ = .bool true), (61, fun z_ _ => z_ = .agg #[.slice pa na ca, .int .i64 p, .int .i64 q]), (62, fun z_ _ => z_ = .slice pb (boxU a3l).length cb), (63, fun z_ _ => z_ = .agg #[.int .i64 g0, .int .i64 g1]), (64, fun z_ _ => z_ = .agg #[.slice pa na ca, .int .i64 p, .int .i64 q]), (65, fun z_ _ => z_ = .slice pb (boxU a3l).length cb), (66, fun z_ _ => z_ = .agg #[.int .i64 g0, .int .i64 g1]), (67, fun z_ _ => z_ = .bool true), (68, fun z_ _ => z_ = .bool true), (8, fun z_ _ => z_ = .bool true)]) (by kernel_rfl) (by kernel_rfl) (lk_steady _ ⟨steady_eq _, steady_eq _, steady_eq _, mop_steady _ _ _, steady_eq _, mop_steady _ _ _, steady_eq _, steady_eq _, steady_eq _, steady_eq _, steady_eq _, steady_eq _, steady_eq _, mop_steady _ _ _, steady_eq _, steady_eq _, steady_eq _, steady_eq _, mop_steady _ _ _, steady_eq _, steady_eq _, steady_eq _, steady_eq _, steady_eq _, steady_eq _, steady_eq _, steady_eq _, steady_eq _, steady_eq _, steady_eq _, steady_eq _, trivial⟩) ?_ ?_
      · refine ⟨?_, ?_, ?_, ?_, ?_, ?_, ?_, ?_, ?_, ?_, ?_, ?_, ?_, ?_, ?_, ?_, ?_, ?_, ?_, ?_, ?_, ?_, ?_, ?_, ?_, ?_, ?_, ?_, ?_, ?_, ?_, trivial⟩
        · refine ob_plain [9] rfl rfl fun aa g h => ?_
          have yy0 := seen_out (v := .bool true) rfl rfl h.1
          have ee0 := getD_of yy0
          exact tupon_value (v := .bool true) (by simp [go_sem, ee0, yy0]) (Below.refl _ _) rfl
        · refine ob_plain [39] rfl rfl fun aa g h => ?_
          obtain ⟨_, yy0, rfl⟩ := seen_in rfl h.1
          have ee0 := getD_of yy0
          exact tupon_value (v := .bool true) (by simp [go_sem, ee0, yy0]) (Below.refl _ _) rfl
        · refine ob_gtrue [10] _ true 40 rfl rfl rfl rfl (fun v w h => h) fun aa g h => ?_
          have yy0 := seen_out (v := .pointer (some ⟨w2.heap.size, 0, none⟩)) rfl rfl h.1
          have ee0 := getD_of yy0
          exact tupon_value (v := .agg #[.int .i64 c0, .int .i64 c1]) (by simp [go_sem, ee0, yy0, l0 g, l1 g]) (Below.refl _ _) rfl
        · refine ob_gtrue [41] _ true 40 rfl rfl rfl rfl (fun v w h => h) fun aa g h => ?_
          obtain ⟨_, yy0, rfl⟩ := seen_in rfl h.1
          have ee0 := getD_of yy0
          refine tupon_enter (f := 33) (args := #[.agg #[.int .i64 c0, .int .i64 c1]]) (by simp [go_sem, ee0, yy0]) rfl ?_
          exact (KCo.out g.w).mono fun e w' ⟨r, he, hx, _, hB⟩ => ⟨_, he, hB, mop_mk hx⟩
        · refine ob_gtrue [10] _ true 40 rfl rfl rfl rfl (fun v w h => h) fun aa g h => ?_
          have yy0 := seen_out (v := .pointer (some ⟨w2.heap.size, 0, none⟩)) rfl rfl h.1
          have ee0 := getD_of yy0
          exact tupon_value (v := .agg #[.int .i64 c0, .int .i64 c1]) (by simp [go_sem, ee0, yy0, l0 g, l1 g]) (Below.refl _ _) rfl
        · refine ob_gtrue [43] _ true 40 rfl rfl rfl rfl (fun v w h => h) fun aa g h => ?_
          obtain ⟨_, yy0, rfl⟩ := seen_in rfl h.1
          have ee0 := getD_of yy0
          refine tupon_enter (f := 34) (args := #[.agg #[.int .i64 c0, .int .i64 c1]]) (by simp [go_sem, ee0, yy0]) rfl ?_
          exact (RCo.out g.w).mono fun e w' ⟨r, he, hx, hB⟩ => ⟨_, he, hB, mop_mk hx⟩
        · refine ob_gtrue [42, 44] _ true 40 rfl rfl rfl rfl (fun v w h => h) fun aa g h => ?_
          obtain ⟨_, yy0, ⟨p42, n42, c42, rfl, tx42⟩⟩ := seen_in rfl h.1
          have ee0 := getD_of yy0
          obtain ⟨_, yy1, ⟨p44, n44, c44, rfl, tx44⟩⟩ := seen_in rfl h.2.1
          have ee1 := getD_of yy1
          refine tupon_enter (f := 16) (args := #[.agg #[.slice p42 n42 c42, .int .i64 n0, .int .i64 n1], .agg #[.slice p44 n44 c44, .int .i64 n0, .int .i64 n1]]) (by simp [go_sem, ee0, yy0, ee1, yy1]) rfl ?_
          exact (YN.out (.slice p42 n42 c42) (.slice p44 n44 c44) g.w tx42 tx44).mono fun e w' ⟨he, hB⟩ => ⟨_, he, hB, rfl⟩
        · refine ob_plain [40, 45] rfl rfl fun aa g h => ?_
          obtain ⟨_, yy0, rfl⟩ := seen_in rfl h.1
          have ee0 := getD_of yy0
          obtain ⟨_, yy1, rfl⟩ := seen_in rfl h.2.1
          have ee1 := getD_of yy1
          exact tupon_value (v := .bool true) (by simp [go_sem, ee0, yy0, ee1, yy1]) (Below.refl _ _) rfl
        · refine ob_plain [46] rfl rfl fun aa g h => ?_
          obtain ⟨_, yy0, rfl⟩ := seen_in rfl h.1
          have ee0 := getD_of yy0
          exact tupon_value (v := .bool true) (by simp [go_sem, ee0, yy0]) (Below.refl _ _) rfl
        · refine ob_gtrue [1] _ true 47 rfl rfl rfl rfl (fun v w h => h) fun aa g h => ?_
          have yy0 := seen_out (v := .int .u8 a1) rfl rfl h.1
          have ee0 := getD_of yy0
          exact tupon_value (v := .int .u8 a1) (by simp [go_sem, ee0, yy0]) (Below.refl _ _) rfl
        · refine ob_gtrue [48] _ true 47 rfl rfl rfl rfl (fun v w h => h) fun aa g h => ?_
          obtain ⟨_, yy0, rfl⟩ := seen_in rfl h.1
          have ee0 := getD_of yy0
          exact tupon_value (v := .int .u8 d) (by simp [go_sem, ee0, yy0, T6]) (Below.refl _ _) rfl
        · refine ob_gtrue [49] _ true 47 rfl rfl rfl rfl (fun v w h => h) fun aa g h => ?_
          obtain ⟨_, yy0, rfl⟩ := seen_in rfl h.1
          have ee0 := getD_of yy0
          exact tupon_value (v := .int .i64 d) (by simp [go_sem, ee0, yy0, Wd]) (Below.refl _ _) rfl
        · refine ob_gtrue [10] _ true 47 rfl rfl rfl rfl (fun v w h => h) fun aa g h => ?_
          have yy0 := seen_out (v := .pointer (some ⟨w2.heap.size, 0, none⟩)) rfl rfl h.1
          have ee0 := getD_of yy0
          exact tupon_value (v := .agg #[.int .i64 c0, .int .i64 c1]) (by simp [go_sem, ee0, yy0, l0 g, l1 g]) (Below.refl _ _) rfl
        · refine ob_gtrue [50, 51] _ true 47 rfl rfl rfl rfl (fun v w h => h) fun aa g h => ?_
          obtain ⟨_, yy0, rfl⟩ := seen_in rfl h.1
          have ee0 := getD_of yy0
          obtain ⟨_, yy1, rfl⟩ := seen_in rfl h.2.1
          have ee1 := getD_of yy1
          refine tupon_enter (f := 35) (args := #[.int .i64 d, .agg #[.int .i64 c0, .int .i64 c1]]) (by simp [go_sem, ee0, yy0, ee1, yy1]) rfl ?_
          exact (KVa.out g.w).mono fun e w' ⟨r, he, hx, _, hB⟩ => ⟨_, he, hB, mop_mk hx⟩
        · refine ob_gtrue [1] _ true 47 rfl rfl rfl rfl (fun v w h => h) fun aa g h => ?_
          have yy0 := seen_out (v := .int .u8 a1) rfl rfl h.1
          have ee0 := getD_of yy0
          exact tupon_value (v := .int .u8 a1) (by simp [go_sem, ee0, yy0]) (Below.refl _ _) rfl
        · refine ob_gtrue [53] _ true 47 rfl rfl rfl rfl (fun v w h => h) fun aa g h => ?_
          obtain ⟨_, yy0, rfl⟩ := seen_in rfl h.1
          have ee0 := getD_of yy0
          exact tupon_value (v := .int .u8 d) (by simp [go_sem, ee0, yy0, T6]) (Below.refl _ _) rfl
        · refine ob_gtrue [54] _ true 47 rfl rfl rfl rfl (fun v w h => h) fun aa g h => ?_
          obtain ⟨_, yy0, rfl⟩ := seen_in rfl h.1
          have ee0 := getD_of yy0
          exact tupon_value (v := .int .i64 d) (by simp [go_sem, ee0, yy0, Wd]) (Below.refl _ _) rfl
        · refine ob_gtrue [10] _ true 47 rfl rfl rfl rfl (fun v w h => h) fun aa g h => ?_
          have yy0 := seen_out (v := .pointer (some ⟨w2.heap.size, 0, none⟩)) rfl rfl h.1
          have ee0 := getD_of yy0
          exact tupon_value (v := .agg #[.int .i64 c0, .int .i64 c1]) (by simp [go_sem, ee0, yy0, l0 g, l1 g]) (Below.refl _ _) rfl
        · refine ob_gtrue [55, 56] _ true 47 rfl rfl rfl rfl (fun v w h => h) fun aa g h => ?_
          obtain ⟨_, yy0, rfl⟩ := seen_in rfl h.1
          have ee0 := getD_of yy0
          obtain ⟨_, yy1, rfl⟩ := seen_in rfl h.2.1
          have ee1 := getD_of yy1
          refine tupon_enter (f := 36) (args := #[.int .i64 d, .agg #[.int .i64 c0, .int .i64 c1]]) (by simp [go_sem, ee0, yy0, ee1, yy1]) rfl ?_
          exact (RVa.out g.w).mono fun e w' ⟨r, he, hx, hB⟩ => ⟨_, he, hB, mop_mk hx⟩
        · refine ob_gtrue [52, 57] _ true 47 rfl rfl rfl rfl (fun v w h => h) fun aa g h => ?_
          obtain ⟨_, yy0, ⟨p52, n52, c52, rfl, tx52⟩⟩ := seen_in rfl h.1
          have ee0 := getD_of yy0
          obtain ⟨_, yy1, ⟨p57, n57, c57, rfl, tx57⟩⟩ := seen_in rfl h.2.1
          have ee1 := getD_of yy1
          refine tupon_enter (f := 16) (args := #[.agg #[.slice p52 n52 c52, .int .i64 s0, .int .i64 s1], .agg #[.slice p57 n57 c57, .int .i64 s0, .int .i64 s1]]) (by simp [go_sem, ee0, yy0, ee1, yy1]) rfl ?_
          exact (YS.out (.slice p52 n52 c52) (.slice p57 n57 c57) g.w tx52 tx57).mono fun e w' ⟨he, hB⟩ => ⟨_, he, hB, rfl⟩
        · refine ob_plain [47, 58] rfl rfl fun aa g h => ?_
          obtain ⟨_, yy0, rfl⟩ := seen_in rfl h.1
          have ee0 := getD_of yy0
          obtain ⟨_, yy1, rfl⟩ := seen_in rfl h.2.1
          have ee1 := getD_of yy1
          exact tupon_value (v := .bool true) (by simp [go_sem, ee0, yy0, ee1, yy1]) (Below.refl _ _) rfl
        · refine ob_plain [59] rfl rfl fun aa g h => ?_
          obtain ⟨_, yy0, rfl⟩ := seen_in rfl h.1
          have ee0 := getD_of yy0
          exact tupon_value (v := .bool true) (by simp [go_sem, ee0, yy0]) (Below.refl _ _) rfl
        · refine ob_gtrue [11] _ true 60 rfl rfl rfl rfl (fun v w h => h) fun aa g h => ?_
          have yy0 := seen_out (v := .pointer (some ⟨w3.heap.size, 0, none⟩)) rfl rfl h.1
          have ee0 := getD_of yy0
          exact tupon_value (v := .agg #[.slice pa na ca, .int .i64 p, .int .i64 q]) (by simp [go_sem, ee0, yy0, k0 g, k1 g, k2 g]) (Below.refl _ _) rfl
        · refine ob_gtrue [12] _ true 60 rfl rfl rfl rfl (fun v w h => h) fun aa g h => ?_
          have yy0 := seen_out (v := .slice pb (boxU a3l).length cb) rfl rfl h.1
          have ee0 := getD_of yy0
          exact tupon_value (v := .slice pb (boxU a3l).length cb) (by simp [go_sem, ee0, yy0]) (Below.refl _ _) rfl
        · refine ob_gtrue [61, 62] _ true 60 rfl rfl rfl rfl (fun v w h => h) fun aa g h => ?_
          obtain ⟨_, yy0, rfl⟩ := seen_in rfl h.1
          have ee0 := getD_of yy0
          obtain ⟨_, yy1, rfl⟩ := seen_in rfl h.2.1
          have ee1 := getD_of yy1
          refine tupon_enter (f := 37) (args := #[.agg #[.slice pa na ca, .int .i64 p, .int .i64 q], .slice pb (boxU a3l).length cb]) (by simp [go_sem, ee0, yy0, ee1, yy1]) rfl ?_
          exact (KEv.out g.w (HX.out.grow g.h) (HBX.out.grow g.h)).mono fun e w' ⟨he, hB⟩ => ⟨_, he, hB, rfl⟩
        · refine ob_gtrue [11] _ true 60 rfl rfl rfl rfl (fun v w h => h) fun aa g h => ?_
          have yy0 := seen_out (v := .pointer (some ⟨w3.heap.size, 0, none⟩)) rfl rfl h.1
          have ee0 := getD_of yy0
          exact tupon_value (v := .agg #[.slice pa na ca, .int .i64 p, .int .i64 q]) (by simp [go_sem, ee0, yy0, k0 g, k1 g, k2 g]) (Below.refl _ _) rfl
        · refine ob_gtrue [12] _ true 60 rfl rfl rfl rfl (fun v w h => h) fun aa g h => ?_
          have yy0 := seen_out (v := .slice pb (boxU a3l).length cb) rfl rfl h.1
          have ee0 := getD_of yy0
          exact tupon_value (v := .slice pb (boxU a3l).length cb) (by simp [go_sem, ee0, yy0]) (Below.refl _ _) rfl
        · refine ob_gtrue [64, 65] _ true 60 rfl rfl rfl rfl (fun v w h => h) fun aa g h => ?_
          obtain ⟨_, yy0, rfl⟩ := seen_in rfl h.1
          have ee0 := getD_of yy0
          obtain ⟨_, yy1, rfl⟩ := seen_in rfl h.2.1
          have ee1 := getD_of yy1
          refine tupon_enter (f := 38) (args := #[.agg #[.slice pa na ca, .int .i64 p, .int .i64 q], .slice pb (boxU a3l).length cb]) (by simp [go_sem, ee0, yy0, ee1, yy1]) rfl ?_
          exact (REv.out g.w (HX.out.grow g.h) (HBX.out.grow g.h)).mono fun e w' ⟨he, hB⟩ => ⟨_, he, hB, rfl⟩
        · refine ob_gtrue [63, 66] _ true 60 rfl rfl rfl rfl (fun v w h => h) fun aa g h => ?_
          obtain ⟨_, yy0, rfl⟩ := seen_in rfl h.1
          have ee0 := getD_of yy0
          obtain ⟨_, yy1, rfl⟩ := seen_in rfl h.2.1
          have ee1 := getD_of yy1
          exact tupon_value (v := .bool true) (by simp [go_sem, ee0, yy0, ee1, yy1]) (Below.refl _ _) rfl
        · refine ob_plain [60, 67] rfl rfl fun aa g h => ?_
          obtain ⟨_, yy0, rfl⟩ := seen_in rfl h.1
          have ee0 := getD_of yy0
          obtain ⟨_, yy1, rfl⟩ := seen_in rfl h.2.1
          have ee1 := getD_of yy1
          exact tupon_value (v := .bool true) (by simp [go_sem, ee0, yy0, ee1, yy1]) (Below.refl _ _) rfl
        · refine ob_plain [68] rfl rfl fun aa g h => ?_
          obtain ⟨_, yy0, rfl⟩ := seen_in rfl h.1
          have ee0 := getD_of yy0
          exact tupon_value (v := .bool true) (by simp [go_sem, ee0, yy0]) (Below.refl _ _) rfl
      rintro w9 hB9 _ rfl _ rfl _ rfl _ ⟨p42, n42, c42, rfl, tx42⟩ _ rfl _ ⟨p44, n44, c44, rfl, tx44⟩ _ rfl _ rfl _ rfl _ rfl _ rfl _ rfl _ rfl _ ⟨p52, n52, c52, rfl, tx52⟩ _ rfl _ rfl _ rfl _ rfl _ ⟨p57, n57, c57, rfl, tx57⟩ _ rfl _ rfl _ rfl _ rfl _ rfl _ rfl _ rfl _ rfl _ rfl _ rfl _ rfl _ rfl
      simp only [Act.put, List.setIfInBounds_toArray, List.set_cons_succ, List.set_cons_zero, List.filterMap_nil, finP]
      clear k0 k1 k2 l0 l1
      go_wp2_with (fail)
      go_ret
      exact ⟨rfl, below_then HT1.out hB9⟩
end Go.Proofs.YthakeeinhgfbbaaGreat
