/-
  Package poly: Truncate, Add.
-/
import Derived.Test.YthakeeinhgfbbaaGreatTz
namespace Go.Proofs.YthakeeinhgfbbaaGreat
open Go.ChangeShapes Go.WideShapes Go.ChangeAt Go.RowKit
set_option linter.unusedVariables false
set_option linter.unusedSimpArgs false
set_option maxRecDepth 100000

attribute [local irreducible] Calls
/-- A slice of new blocks stays, whatever is stored to an elder block. -/
theorem Tx.off {W : World} {u : Value} {l : List Tm} {B c : Nat} (h : Tx W u l) (hn : NewB B u) (hc : c < B) (hcl : c < W.heap.size) (x y : Value) : Tx ((W.setCell ⟨c, 0, none⟩ x).setCell ⟨c, 1, none⟩ y) u l := by
  obtain ⟨h1, p, cap, rfl, h2⟩ := h
  refine ⟨h1, p, cap, rfl, fun i t ht => ?_⟩
  obtain ⟨b, o, rfl, h3, h4⟩ := h2 i t ht
  have hb : B ≤ b := hn.2 b (by simp [Value.ownBlock])
  refine ⟨b, o, rfl, by simpa [World.setCell] using h3, fun j v hv => ?_⟩
  have hne : b ≠ c := by omega
  rw [World.cell?_setCell_other _ _ _ _ (by simp [hne]), World.cell?_setCell_other _ _ _ _ (by simp [hne])]
  exact h4 j v hv
set_option maxHeartbeats 4000000 in
theorem truncate_ok (v : Value) (l : List Tm) (deg : Int) (w : World) (hv : Tx w v l) (ht : ∀ t ∈ l, TV t) (hsm : l.length ≤ 100000) :
    Calls Tryz.prog 70 #[v, .int .i64 deg] w fun e w' => ∃ u, e = .returned (.tuple #[u, .agg #[.int .i64 (truncP l deg (0, 0)).2.1, .int .i64 (truncP l deg (0, 0)).2.2]]) ∧ Tx w' u (truncP l deg (0, 0)).1 ∧ NewB w.heap.size u ∧ Below w.heap.size w w' := by
  obtain ⟨R, hR⟩ : ∃ R, truncP l deg (0, 0) = R := ⟨_, rfl⟩
  have hba : Below w.heap.size w (w.alloc (.cells #[.int .i64 0, .int .i64 0] 24)) := (Below.refl _ _).alloc (Nat.le_refl _) _
  have hI : IvC (w.alloc (.cells #[.int .i64 0, .int .i64 0] 24)) w.heap.size (0, 0) := World.alloc_heap_new w _
  have HC := Lib.hid (trunc_ok v l deg 0 0 _ (hv.grow hba) ht (by unfold MB; omega) hsm)
  rw [hR] at HC ⊢
  obtain ⟨K, n1, n2⟩ := R
  dsimp only at HC ⊢
  obtain ⟨p, c, rfl⟩ := hv.cut
  clear hv ht hR
  go_enter Tryz.func70, Tryz.ntmps70
  go_wp2_with (fail)
  refine HC.out.mono ?_
  rintro e w1 ⟨u, rfl, htx, hnew, hB⟩
  have hI1 := hI.grow hB
  have c0 := hI1.c0
  have c1 := hI1.c1
  have z0 := hI1.frozen 0
  have z1 := hI1.frozen 1
  rw [World.size_alloc] at hnew
  have hof := Lib.hid (htx.off hnew (c := w.heap.size) (by omega) hI1.lt (.int .i64 n1) (.int .i64 n2))
  have hB1 := below_then hba hB
  have HN := Lib.hid hnew
  clear htx hnew
  go_wp2_with (fail)
  refine bodyPost_ret (v := .tuple #[u, .agg #[.int .i64 n1, .int .i64 n2]]) (by simp [results, Tryz.results70, go_sem, c0, c1]) rfl ⟨u, rfl, hof.out, ⟨HN.out.1, fun b h => Nat.le_of_succ_le (HN.out.2 b h)⟩, ?_⟩
  exact (hB1.setCell (p := ⟨w.heap.size, 0, none⟩) (Nat.le_refl _) _).setCell (p := ⟨w.heap.size, 1, none⟩) (Nat.le_refl _) _
set_option maxHeartbeats 4000000 in
theorem add_ok (v u : Value) (l m : List Tm) (w : World) (hv : Tx w v l) (hu : Tx w u m) (hcv : CapOk v) (hcu : CapOk u) (hl : ∀ t ∈ l, TV t ∧ Small62 t) (hm : ∀ t ∈ m, TV t ∧ Small62 t) (hk : ∀ t ∈ mergeP l m, TV t) (hkl : (mergeP l m).length ≤ 100000) (hsm : l.length + m.length ≤ 200000) :
    Calls Tryz.prog 56 #[v, u] w fun e w' => ∃ r, e = .returned (.tuple #[r, .agg #[.int .i64 (truncP (mergeP l m) 6 (0, 0)).2.1, .int .i64 (truncP (mergeP l m) 6 (0, 0)).2.2]]) ∧ Tx w' r (truncP (mergeP l m) 6 (0, 0)).1 ∧ NewB w.heap.size r ∧ Below w.heap.size w w' := by
  obtain ⟨M, hM⟩ : ∃ M, mergeP l m = M := ⟨_, rfl⟩
  have hba : Below w.heap.size w (w.alloc (.cells #[.int .i64 0, .int .i64 0] 24)) := (Below.refl _ _).alloc (Nat.le_refl _) _
  have hI : IvC (w.alloc (.cells #[.int .i64 0, .int .i64 0] 24)) w.heap.size (0, 0) := World.alloc_heap_new w _
  have HG := Lib.hid (merged_ok v u l m _ (hv.grow hba) (hu.grow hba) hcv hcu hl hm hsm)
  rw [hM] at HG hk hkl ⊢
  have HC := Lib.hid (fun (r : Value) (w1 : World) (h : Tx w1 r M) => trunc_ok r M 6 0 0 w1 h hk (by unfold MB; omega) hkl)
  obtain ⟨R, hR⟩ : ∃ R, truncP M 6 (0, 0) = R := ⟨_, rfl⟩
  rw [hR] at HC ⊢
  obtain ⟨K, n1, n2⟩ := R
  dsimp only at HC ⊢
  obtain ⟨p, c, rfl⟩ := hv.cut
  obtain ⟨p', c', rfl⟩ := hu.cut
  clear hv hu hcv hcu hl hm hk hkl hR hM
  go_enter Tryz.func56, Tryz.ntmps56
  go_wp2_with (fail)
  refine HG.out.mono ?_
  rintro e w0 ⟨r0, rfl, htx0, _, hB0⟩
  have hI0 := hI.grow hB0
  have HC1 := Lib.hid (HC.out r0 w0 htx0)
  have hB0' := below_then hba hB0
  have hz0 := hB0.size
  simp only [World.size_alloc] at hz0
  clear htx0
  go_wp2_with (fail)
  refine HC1.out.mono ?_
  rintro e w1 ⟨r, rfl, htx, hnew, hB⟩
  have hI1 := hI0.grow hB
  have c0 := hI1.c0
  have c1 := hI1.c1
  have z0 := hI1.frozen 0
  have z1 := hI1.frozen 1
  have hof := Lib.hid (htx.off hnew (c := w.heap.size) (by omega) hI1.lt (.int .i64 n1) (.int .i64 n2))
  have hB1 := below_then hB0' hB
  have HN := Lib.hid hnew
  clear htx hnew
  go_wp2_with (fail)
  refine bodyPost_ret (v := .tuple #[r, .agg #[.int .i64 n1, .int .i64 n2]]) (by simp [results, Tryz.results56, go_sem, c0, c1]) rfl ⟨r, rfl, hof.out, ⟨HN.out.1, fun b h => Nat.le_trans (by omega) (HN.out.2 b h)⟩, ?_⟩
  exact (hB1.setCell (p := ⟨w.heap.size, 0, none⟩) (Nat.le_refl _) _).setCell (p := ⟨w.heap.size, 1, none⟩) (Nat.le_refl _) _
end Go.Proofs.YthakeeinhgfbbaaGreat
