/-
  box.SquaredDistance.
-/
import Derived.Test.YtpepgheocemjdaaEvery
import Derived.Test.YtpepgheocemjdaaIvMath
import Derived.Test.YtpepgheocemjdaaIw4a
namespace Go.Proofs.Ytpepgheocemjdaa
open Go.ChangeShapes Go.WideShapes Go.ChangeAt Go.RowKit Go.Shelf
set_option linter.unusedVariables false
set_option linter.unusedSimpArgs false
set_option maxRecDepth 100000
attribute [local go_sem] Oper.semAt_some

theorem heap_set {W : World} {a : Addr} {u : Value} {k : Nat} (h : k ≠ a.block) : (W.setCell a u).heap[k]? = W.heap[k]? := Below.heap_setCell _ _ _ k h
theorem cells_set {W : World} {b o : Nat} {cs : Array Value} {t : TypeId} {z : Nat × Nat} {u : Value} (h : W.heap[b]? = some (.cells cs t z)) : (W.setCell ⟨b, o, none⟩ u).heap[b]? = some (.cells (cs.setIfInBounds o u) t z) := by
  obtain ⟨hlt, hk⟩ := Array.getElem?_eq_some_iff.1 h
  show (W.heap.modify b _)[b]? = _
  rw [Array.getElem?_eq_getElem (by rw [Array.size_modify]; exact hlt), Array.getElem_modify_self, hk]
  rfl
theorem IvBox.set {W : World} {b : Nat} {p : Int × Int} (h : IvBox W b p) (x y : Int) : IvBox ((W.setCell ⟨b, 0, none⟩ (.int .i64 x)).setCell ⟨b, 1, none⟩ (.int .i64 y)) b (x, y) := by
  have h1 := cells_set (o := 1) (u := .int .i64 y) (cells_set (o := 0) (u := .int .i64 x) h)
  exact h1
theorem IvBox.frozen {W : World} {b : Nat} {p : Int × Int} (h : IvBox W b p) (o : Nat) : W.frozen? ⟨b, o, none⟩ = false := by simp [World.frozen?, show W.heap[b]? = _ from h]

def subI (p q : Int × Int) : Int × Int := (addLo p.1 p.2 (-q.2) (-q.1), addHi p.1 p.2 (-q.2) (-q.1))
def sqI (p : Int × Int) : Int × Int := (sqLo p.1 p.2, sqHi p.1 p.2)
def addI (p q : Int × Int) : Int × Int := (addLo p.1 p.2 q.1 q.2, addHi p.1 p.2 q.1 q.2)
def VB (p : Int × Int) : Prop := VI p.1 p.2
def step1 (s : Int × Int) (z : (Int × Int) × (Int × Int)) : Int × Int := addI s (sqI (subI z.1 z.2))
def sdist (l : List ((Int × Int) × (Int × Int))) : Int × Int := l.foldl step1 (0, 0)
theorem VB.le {p : Int × Int} (h : VB p) : p.1 ≤ p.2 := (VI.bd h).2.2.2.2
theorem sub_vb {p q : Int × Int} (h : VB p) (k : VB q) : VB (subI p q) := add_vi h.le (by have := k.le; omega)
theorem sq_vb (p : Int × Int) : VB (sqI p) := sq_vi _ _
theorem add_vb {p q : Int × Int} (h : VB p) (k : VB q) : VB (addI p q) := add_vi h.le k.le
theorem fold_vb : ∀ (l : List ((Int × Int) × (Int × Int))) (s : Int × Int), VB s → VB (l.foldl step1 s)
  | [], s, h => h
  | z :: l, s, h => fold_vb l _ (add_vb h (sq_vb _))
theorem sdist_vb (l : List ((Int × Int) × (Int × Int))) : VB (sdist l) := fold_vb l _ (.inr ⟨⟨by decide, by decide⟩, ⟨by decide, by decide⟩, by decide⟩)
theorem sdist_snoc (l : List ((Int × Int) × (Int × Int))) (z : (Int × Int) × (Int × Int)) : sdist (l ++ [z]) = step1 (sdist l) z := by simp [sdist]
abbrev VP := { z : (Int × Int) × (Int × Int) // VB z.1 ∧ VB z.2 }
def vps (l : List ((Int × Int) × (Int × Int))) (h : ∀ z ∈ l, VB z.1 ∧ VB z.2) : List VP := l.attachWith _ h
theorem vps_map (l : List ((Int × Int) × (Int × Int))) (h : ∀ z ∈ l, VB z.1 ∧ VB z.2) : (vps l h).map Subtype.val = l := by
  have := List.attachWith_map_val (f := fun z => z) h
  simpa [vps] using this

set_option maxHeartbeats 4000000 in
theorem sqd_in (n : Nat) (hn : 3 ≤ n) (va vb : Value) (la lb : List (Int × Int)) (w : World) (hva : Bx w va la) (hvb : Bx w vb lb) (hlen : lb.length = la.length) (hv : ∀ z ∈ la.zip lb, VB z.1 ∧ VB z.2) :
    CallsIn Fence.wide n Try.prog 38 #[va, vb] w fun e W' => e = .returned (iva (sdist (la.zip lb))) ∧ Below w.heap.size w W' := by
  have h1 : 1 ≤ n := by omega
  have HA := Lib.hid hva
  have HB := Lib.hid hvb
  obtain ⟨zs, hzs⟩ : ∃ zs : List VP, zs.map Subtype.val = la.zip lb := ⟨vps _ hv, vps_map _ hv⟩
  obtain ⟨hl, p, c, rfl, hp⟩ := hva
  obtain ⟨hm, q, d, rfl, hq⟩ := hvb
  clear hp hq hl hm hv
  rw [hlen] at HB ⊢
  rw [← hzs]
  refine callsIn_of_wp_marks Try.func38 rfl trivial ?_ rfl
  simp only [Try.ntmps38, List.size_toArray, List.length_cons, List.length_nil, Nat.reduceAdd, Nat.reduceSub, Array.replicate_succ, Array.replicate_zero, List.push_toArray, List.append_toArray, List.nil_append, List.cons_append]
  gi_wp2_with (refine ⟨trivial, ?_⟩; gi_at_call 83; refine (pairs_in (n - 1) _ _ _ _ _ _ _).mono ?_; rintro e w' ⟨rfl, rfl⟩)
  have b0 := (((IvBox.new w 0 0).alloc (.cells #[.int .i64 0, .int .i64 0] 23)).alloc (.cells #[.slice p la.length c] 36)).alloc (.cells #[.slice q la.length d] 36)
  have b1 := ((IvBox.new (w.alloc (.cells #[.int .i64 0, .int .i64 0] 23)) 0 0).alloc (.cells #[.slice p la.length c] 36)).alloc (.cells #[.slice q la.length d] 36)
  have b2 := (Boxed.new ((w.alloc (.cells #[.int .i64 0, .int .i64 0] 23)).alloc (.cells #[.int .i64 0, .int .i64 0] 23)) 36 (.slice p la.length c)).alloc (.cells #[.slice q la.length d] 36)
  have b3 := Boxed.new (((w.alloc (.cells #[.int .i64 0, .int .i64 0] 23)).alloc (.cells #[.int .i64 0, .int .i64 0] 23)).alloc (.cells #[.slice p la.length c] 36)) 36 (.slice q la.length d)
  have hB0 : Below w.heap.size w ((((w.alloc (.cells #[.int .i64 0, .int .i64 0] 23)).alloc (.cells #[.int .i64 0, .int .i64 0] 23)).alloc (.cells #[.slice p la.length c] 36)).alloc (.cells #[.slice q la.length d] 36)) := ((((Below.refl _ w).alloc (Nat.le_refl _) _).alloc (by simp) _).alloc (by simp; omega) _).alloc (by simp; omega) _
  have hsz : ((((w.alloc (.cells #[.int .i64 0, .int .i64 0] 23)).alloc (.cells #[.int .i64 0, .int .i64 0] 23)).alloc (.cells #[.slice p la.length c] 36)).alloc (.cells #[.slice q la.length d] 36)).heap.size = w.heap.size + 4 := by simp
  simp only [World.size_alloc] at b0 b1 b2 b3 ⊢
  obtain ⟨W0, hW0⟩ : ∃ W0, ((((w.alloc (.cells #[.int .i64 0, .int .i64 0] 23)).alloc (.cells #[.int .i64 0, .int .i64 0] 23)).alloc (.cells #[.slice p la.length c] 36)).alloc (.cells #[.slice q la.length d] 36)) = W0 := ⟨_, rfl⟩
  rw [hW0] at b0 b1 b2 b3 hB0 hsz ⊢
  clear hW0
  refine wpIn_rangeFunc_ownH rfl h1 (gf := 119) (lb := #[.pointer (some ⟨w.heap.size + 1 + 1, 0, none⟩), .pointer (some ⟨w.heap.size + 1 + 1 + 1, 0, none⟩)]) rfl trivial (enters_of Try.func119 (by kernel_rfl) rfl)
    (pairs_stopsv (n - 1) (by omega) (w.heap.size + 1 + 1) (w.heap.size + 1 + 1 + 1) _ _ la lb w W0 HA.out (by have := HB.out; exact this) hlen hB0 b2 b3 Subtype.val zs hzs) KpB.trans (fun W l o o' hl ho hoc _ => kpb_put (by omega) (by omega) (by omega)) (Below.refl _ _) (fun _ => rfl)
    (fun pre W => (IvBox W w.heap.size (0, 0) ∧ IvBox W (w.heap.size + 1) (sdist (pre.map Subtype.val)) ∧ Boxed W (w.heap.size + 1 + 1) 36 (.slice p la.length c) ∧ Boxed W (w.heap.size + 1 + 1 + 1) 36 (.slice q la.length d)) ∧ Below w.heap.size w W)
    (fun _ _ _ => False)
    (OwnFrom.and (fun s A B row hs hg hr => ⟨own_block hg hr hs.1, own_block hg hr hs.2.1, own_block hg hr hs.2.2.1, own_block hg hr hs.2.2.2⟩) (ownFrom_below (Nat.le_refl _) (by omega)))
    (fun _ _ _ _ _ hs _ _ => hs)
    ⟨⟨b0, b1, b2, b3⟩, hB0⟩
    (fun z a' W => ∃ X Y, IvBox W X z.1.1 ∧ IvBox W Y z.1.2 ∧ a' = { tmps := #[.slice p la.length c, .slice q la.length d, undef, undef, .pointer (some ⟨w.heap.size, 0, none⟩), .pointer (some ⟨w.heap.size + 1, 0, none⟩), .pointer (some ⟨X, 0, none⟩), .pointer (some ⟨Y, 0, none⟩), .slice p la.length c, .slice q la.length d, .func (.func 119) #[] #[.pointer (some ⟨w.heap.size + 1 + 1, 0, none⟩), .pointer (some ⟨w.heap.size + 1 + 1 + 1, 0, none⟩)], .agg #[.int .i64 z.1.1.1, .int .i64 z.1.1.2], .agg #[.int .i64 z.1.2.1, .int .i64 z.1.2.2], undef, undef, undef, undef, undef, undef, undef], defers := [] })
    (fun z a' _ A B row hs hg hr => by obtain ⟨X, Y, h1, h2, h3⟩ := hs; exact ⟨X, Y, own_block hg hr h1, own_block hg hr h2, h3⟩) ?assign ?body ?done ?stop
  case assign =>
    rintro l pre ⟨⟨⟨x1, y1⟩, ⟨x2, y2⟩⟩, hz⟩ W K hI hK
    simp only [iva]
    gi_wp2
    obtain ⟨⟨i2, i3, i4, i5⟩, i6⟩ := hI
    refine hK _ _ (((KeepsOthers.alloc _ _).trans (KeepsOthers.alloc _ _)).from _) ⟨((Below.refl _ W).alloc i6.size _).alloc (by have := i6.size; simp; omega) _, ((i4.alloc _).alloc _).trans i4.symm, ((i5.alloc _).alloc _).trans i5.symm⟩
      ⟨⟨(i2.alloc _).alloc _, (i3.alloc _).alloc _, (i4.alloc _).alloc _, (i5.alloc _).alloc _⟩, (i6.alloc i6.size _).alloc (by have := i6.size; simp; omega) _⟩ ⟨W.heap.size, W.heap.size + 1, (IvBox.new W x1 y1).alloc _, ?_, rfl⟩
    have := IvBox.new (W.alloc (.cells #[.int .i64 x1, .int .i64 y1] 23)) x2 y2
    rw [World.size_alloc] at this
    exact this
  case body =>
    rintro l pre ⟨⟨⟨x1, y1⟩, ⟨x2, y2⟩⟩, hz⟩ a' W hl ⟨r, hr⟩ ⟨⟨c0, c1, c2, c3⟩, hB⟩ ⟨X, Y, hX, hY, rfl⟩ hlt
    have hV1 : VI x1 y1 := hz.1
    have hV2 : VI x2 y2 := hz.2
    have hVs : VB (sdist (pre.map Subtype.val)) := sdist_vb _
    have hsn : sdist ((pre ++ [⟨((x1, y1), (x2, y2)), hz⟩] : List VP).map Subtype.val) = step1 (sdist (pre.map Subtype.val)) ((x1, y1), (x2, y2)) := by
      rw [List.map_append, ← sdist_snoc]
      rfl
    generalize sdist (pre.map Subtype.val) = s at *
    obtain ⟨s1, s2⟩ := s
    have k1 := fun w => iv_sub x1 y1 x2 y2 w hV1 hV2
    have k2 := fun w => iv_square (addLo x1 y1 (-y2) (-x2)) (addHi x1 y1 (-y2) (-x2)) w (sub_vb (p := (x1, y1)) (q := (x2, y2)) hV1 hV2)
    have k3 := fun w => iv_add s1 s2 (sqLo (addLo x1 y1 (-y2) (-x2)) (addHi x1 y1 (-y2) (-x2))) (sqHi (addLo x1 y1 (-y2) (-x2)) (addHi x1 y1 (-y2) (-x2))) w hVs (sq_vi _ _)
    have HS := Lib.hid hsn
    have f1 := c1.frozen
    have lX := hX.lt
    have lY := hY.lt
    have l1 := c1.lt
    have x0' := hX.cell0
    have x1' := hX.cell1
    have y0' := hY.cell0
    have y1' := hY.cell1
    have s0' := c1.cell0
    have s1' := c1.cell1
    dsimp only at x0' x1' y0' y1' s0' s1'
    gi_wp2
    refine region_in (F := Fence.wide.inRound l) 6 (round_fn l) rfl (round_call l) (by kernel_rfl) (by kernel_rfl) ?_
    refine data_op _ rfl (RQ_load rfl rfl (load_iv l1 s0' s1')) ?_
    simp only [Act.put, List.setIfInBounds_toArray, List.set_cons_succ, List.set_cons_zero]
    refine data_op _ rfl (RQ_load rfl rfl (load_iv lX x0' x1')) ?_
    simp only [Act.put, List.setIfInBounds_toArray, List.set_cons_succ, List.set_cons_zero]
    refine data_op _ rfl (RQ_load rfl rfl (load_iv lY y0' y1')) ?_
    simp only [Act.put, List.setIfInBounds_toArray, List.set_cons_succ, List.set_cons_zero]
    refine data_op _ rfl (RQ_call k1 (fun _ => by simp [go_sem])) ?_
    simp only [Act.put, List.setIfInBounds_toArray, List.set_cons_succ, List.set_cons_zero]
    refine data_op _ rfl (RQ_call k2 (fun _ => by simp [go_sem])) ?_
    simp only [Act.put, List.setIfInBounds_toArray, List.set_cons_succ, List.set_cons_zero]
    refine data_op _ rfl (RQ_call k3 (fun _ => by simp [go_sem])) ?_
    simp only [Act.put, List.setIfInBounds_toArray, List.set_cons_succ, List.set_cons_zero]
    refine data_end ?_
    intro w5 hB5
    simp only [List.drop_succ_cons, List.drop_zero]
    have d0 : IvBox w5 w.heap.size _ := (hB5.block _ c0.lt).trans c0
    have d1 : IvBox w5 (w.heap.size + 1) _ := (hB5.block _ c1.lt).trans c1
    have d2 : Boxed w5 (w.heap.size + 1 + 1) _ _ := (hB5.block _ c2.lt).trans c2
    have d3 : Boxed w5 (w.heap.size + 1 + 1 + 1) _ _ := (hB5.block _ c3.lt).trans c3
    have hK5 : ∀ B, KeepsFrom B W w5 := fun _ => ⟨hB5.size, fun k o _ hk _ => (hB5.block k (Array.getElem?_eq_some_iff.1 hk).1).trans hk⟩
    have hB' : Below w.heap.size w w5 := hB.trans (hB5.mono hB.size)
    have e0 := d1.cell0
    have e1 := d1.cell1
    have e2 := d1.frozen 0
    have e3 := d1.frozen 1
    gi_wp2
    have hS := d1.set (addLo s1 s2 (sqLo (addLo x1 y1 (-y2) (-x2)) (addHi x1 y1 (-y2) (-x2))) (sqHi (addLo x1 y1 (-y2) (-x2)) (addHi x1 y1 (-y2) (-x2)))) (addHi s1 s2 (sqLo (addLo x1 y1 (-y2) (-x2)) (addHi x1 y1 (-y2) (-x2))) (sqHi (addLo x1 y1 (-y2) (-x2)) (addHi x1 y1 (-y2) (-x2))))
    have o0 : ∀ u v k, k ≠ w.heap.size + 1 → ((w5.setCell ⟨w.heap.size + 1, 0, none⟩ u).setCell ⟨w.heap.size + 1, 1, none⟩ v).heap[k]? = w5.heap[k]? := fun u v k h => (heap_set h).trans (heap_set h)
    refine ⟨(hK5 _).trans (((KeepsOthers.setCell _ _ _).trans (KeepsOthers.setCell _ _ _)).from _), ⟨((hB5.mono hB.size).setCell (p := ⟨w.heap.size + 1, 0, none⟩) (by simp) _).setCell (p := ⟨w.heap.size + 1, 1, none⟩) (by simp) _, ?_, ?_⟩, ⟨?_, ?_, ?_, ?_⟩,
      (hB'.setCell (p := ⟨w.heap.size + 1, 0, none⟩) (by simp) _).setCell (p := ⟨w.heap.size + 1, 1, none⟩) (by simp) _⟩
    · exact (o0 _ _ _ (by omega)).trans (d2.trans c2.symm)
    · exact (o0 _ _ _ (by omega)).trans (d3.trans c3.symm)
    · exact (o0 _ _ _ (by omega)).trans d0
    · rw [HS.out]
      exact hS
    · exact (o0 _ _ _ (by omega)).trans d2
    · exact (o0 _ _ _ (by omega)).trans d3
  case done =>
    rintro D ys W hD rfl ⟨⟨c0, c1, c2, c3⟩, hB⟩ hK
    obtain ⟨s, hse⟩ : ∃ s, sdist (ys.map Subtype.val) = s := ⟨_, rfl⟩
    rw [hse] at c1
    have HSE := Lib.hid hse
    clear hse
    obtain ⟨s1, s2⟩ := s
    have f0 := c0.frozen 0
    have f1 := c0.frozen 1
    have r0 := c0.cell0
    have r1 := c0.cell1
    have s0' := c1.cell0
    have s1' := c1.cell1
    dsimp only at s0' s1' r0 r1
    gi_wp2
    have hK' := ((KeepsOthers.setCell W ⟨w.heap.size, 0, none⟩ (.int .i64 s1)).trans (KeepsOthers.setCell _ ⟨w.heap.size, 1, none⟩ (.int .i64 s2))).same D _ hK rfl
    refine ⟨by simp, .inl ⟨_, _, rfl, run_takeDeferred hK', ?_⟩⟩
    have hS := c0.set s1 s2
    have hc0 := cell_kept hS.cell0 (grownBy_putObj' _ D (.deferred none)) (fun r e => by cases e; exact ⟨_, hK', rfl⟩)
    have hc1 := cell_kept hS.cell1 (grownBy_putObj' _ D (.deferred none)) (fun r e => by cases e; exact ⟨_, hK', rfl⟩)
    dsimp only at hc0 hc1
    refine ⟨iva (s1, s2), ?_, by rw [HSE.out], ((hB.setCell (p := ⟨w.heap.size, 0, none⟩) (by simp) _).setCell (p := ⟨w.heap.size, 1, none⟩) (by simp) _).trans (belowK_b (w := w) (Nat.le_refl _) _ D _ _ (by omega) hK' rfl rfl)⟩
    simp [results, Try.f38, go_sem, hc0, hc1, iva]
  case stop =>
    rintro D k pre W hD hpre h _
    exact h.elim

theorem box_sqd (va vb : Value) (la lb : List (Int × Int)) (w : World) (hva : Bx w va la) (hvb : Bx w vb lb) (hlen : lb.length = la.length) (hv : ∀ z ∈ la.zip lb, VB z.1 ∧ VB z.2) :
    Calls Try.prog 38 #[va, vb] w fun e W' => e = .returned (iva (sdist (la.zip lb))) ∧ Below w.heap.size w W' :=
  (callsIn_wide (n := 5)).1 (sqd_in 5 (by decide) va vb la lb w hva hvb hlen hv)
end Go.Proofs.Ytpepgheocemjdaa
