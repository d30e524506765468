/-
  The reference's Op and Eval.
  The reference's Bounded, Hull, Inflate, Image, Validates and Enclose.
-/
import Derived.Maps.AppendAt
import Derived.Test.YtecmgiihacigaaaVt
import Derived.Test.YtecmgiihacigaaaIv4
import Derived.Test.YtecmgiihacigaaaR3
import Derived.Test.YtecmgiihacigaaaR5
import Derived.Test.YtecmgiihacigaaaR6
import Derived.Test.YtecmgiihacigaaaR7
import Derived.Test.YtecmgiihacigaaaVe
namespace Go.Proofs.Ytecmgiihacigaaa
open Go.ChangeShapes Go.WideShapes Go.ChangeAt Go.RowKit Go.Maps
set_option linter.unusedVariables false
set_option linter.unusedSimpArgs false
set_option maxRecDepth 100000
attribute [local irreducible] Calls
set_option maxHeartbeats 4000000 in
theorem rop_4 (a b c d : Int) (w : World) (hv : VI a b) (hw : VI c d) : Calls Try.prog 73 #[.int .i64 4, .agg #[.int .i64 a, .int .i64 b], .agg #[.int .i64 c, .int .i64 d]] w fun e w' => e = .returned (.agg #[.int .i64 (opI 4 (a, b) (c, d)).1, .int .i64 (opI 4 (a, b) (c, d)).2]) ∧ Below w.heap.size w w' := by
  obtain ⟨ha1, ha2, hb1, hb2, hab⟩ := hv.bd
  obtain ⟨hc1, hc2, hd1, hd2, hcd⟩ := hw.bd
  have KC := Lib.hid (fun w => r2neg a b w ha1 ha2 hb1 hb2)
  have hop : opI 4 (a, b) (c, d) = (-b, -a) := by simp [opI]
  rw [hop]
  dsimp only
  obtain ⟨p, ep⟩ : ∃ p, -b = p := ⟨_, rfl⟩
  obtain ⟨q, eq⟩ : ∃ q, -a = q := ⟨_, rfl⟩
  rw [ep, eq] at KC ⊢
  clear ep eq hop hv hw
  have hE : Below w.heap.size w (((w.alloc (.cells #[.int .i64 a, .int .i64 b] 45)).alloc (.cells #[.int .i64 c, .int .i64 d] 45)).alloc (.cells #[.int .i64 0, .int .i64 0] 45)) := allocs_below [.cells #[.int .i64 a, .int .i64 b] 45, .cells #[.int .i64 c, .int .i64 d] 45, .cells #[.int .i64 0, .int .i64 0] 45] w
  have HX := Lib.hid (show Blk (((w.alloc (.cells #[.int .i64 a, .int .i64 b] 45)).alloc (.cells #[.int .i64 c, .int .i64 d] 45)).alloc (.cells #[.int .i64 0, .int .i64 0] 45)) w.heap.size (.cells #[.int .i64 a, .int .i64 b] 45) from allocs_at [.cells #[.int .i64 a, .int .i64 b] 45, .cells #[.int .i64 c, .int .i64 d] 45, .cells #[.int .i64 0, .int .i64 0] 45] w 0 _ rfl)
  have HY := Lib.hid (show Blk (((w.alloc (.cells #[.int .i64 a, .int .i64 b] 45)).alloc (.cells #[.int .i64 c, .int .i64 d] 45)).alloc (.cells #[.int .i64 0, .int .i64 0] 45)) (w.heap.size + 1) (.cells #[.int .i64 c, .int .i64 d] 45) from allocs_at [.cells #[.int .i64 a, .int .i64 b] 45, .cells #[.int .i64 c, .int .i64 d] 45, .cells #[.int .i64 0, .int .i64 0] 45] w 1 _ rfl)
  have HZ := Lib.hid (show Blk (((w.alloc (.cells #[.int .i64 a, .int .i64 b] 45)).alloc (.cells #[.int .i64 c, .int .i64 d] 45)).alloc (.cells #[.int .i64 0, .int .i64 0] 45)) (w.heap.size + 1 + 1) (.cells #[.int .i64 0, .int .i64 0] 45) from allocs_at [.cells #[.int .i64 a, .int .i64 b] 45, .cells #[.int .i64 c, .int .i64 d] 45, .cells #[.int .i64 0, .int .i64 0] 45] w 2 _ rfl)
  have HB := Lib.hid hE
  have hbl := fun (w1 : World) (h : Below (((w.alloc (.cells #[.int .i64 a, .int .i64 b] 45)).alloc (.cells #[.int .i64 c, .int .i64 d] 45)).alloc (.cells #[.int .i64 0, .int .i64 0] 45)).heap.size (((w.alloc (.cells #[.int .i64 a, .int .i64 b] 45)).alloc (.cells #[.int .i64 c, .int .i64 d] 45)).alloc (.cells #[.int .i64 0, .int .i64 0] 45)) w1) (p q : Int) => (((below_then HB.out h).setCell (p := ⟨w.heap.size + 1 + 1, 0, none⟩) (by dsimp only; omega) (.int .i64 p)).setCell (p := ⟨w.heap.size + 1 + 1, 1, none⟩) (by dsimp only; omega) (.int .i64 q))
  have x0 := heapN_cellj HX.out (k := 0) rfl
  have x1 := heapN_cellj HX.out (k := 1) rfl
  have y0 := heapN_cellj HY.out (k := 0) rfl
  have y1 := heapN_cellj HY.out (k := 1) rfl
  clear hE ha1 ha2 hb1 hb2 hab hc1 hc2 hd1 hd2 hcd
  go_enter Try.func73, Try.ntmps73
  go_wp2_with (fail)
  refine (KC.out _).mono ?_
  rintro e w1 ⟨rfl, hB⟩
  clear x0 x1 y0 y1
  have hz := HZ.out.grow hB
  have HW := Lib.hid (hbl w1 hB)
  have y0 := heapN_cellj hz (k := 0) rfl
  have y1 := heapN_cellj hz (k := 1) rfl
  have z0 : w1.frozen? ⟨w.heap.size + 1 + 1, 0, none⟩ = false := by simp [World.frozen?, show w1.heap[w.heap.size + 1 + 1]? = _ from hz]
  have z1 : w1.frozen? ⟨w.heap.size + 1 + 1, 1, none⟩ = false := by simp [World.frozen?, show w1.heap[w.heap.size + 1 + 1]? = _ from hz]
  clear hB hbl HX HY HB HZ
  go_wp2_with (fail)
  have hs := cellsT_setN (o := 1) (u := .int .i64 q) (cellsT_setN (o := 0) (u := .int .i64 p) hz)
  have u0 := heapN_cellj hs (k := 0) (u := .int .i64 p) rfl
  have u1 := heapN_cellj hs (k := 1) (u := .int .i64 q) rfl
  exact bodyPost_ret (v := .agg #[.int .i64 p, .int .i64 q]) (by simp [results, Try.results73, go_sem, u0, u1]) rfl ⟨rfl, HW.out _ _⟩
set_option maxHeartbeats 4000000 in
theorem rop_5 (a b c d : Int) (w : World) (hv : VI a b) (hw : VI c d) : Calls Try.prog 73 #[.int .i64 5, .agg #[.int .i64 a, .int .i64 b], .agg #[.int .i64 c, .int .i64 d]] w fun e w' => e = .returned (.agg #[.int .i64 (opI 5 (a, b) (c, d)).1, .int .i64 (opI 5 (a, b) (c, d)).2]) ∧ Below w.heap.size w w' := by
  obtain ⟨ha1, ha2, hb1, hb2, hab⟩ := hv.bd
  obtain ⟨hc1, hc2, hd1, hd2, hcd⟩ := hw.bd
  have KC := Lib.hid (fun w => r2square a b w hv)
  have hop : opI 5 (a, b) (c, d) = (sqLo a b, sqHi a b) := by simp [opI]
  rw [hop]
  dsimp only
  obtain ⟨p, ep⟩ : ∃ p, sqLo a b = p := ⟨_, rfl⟩
  obtain ⟨q, eq⟩ : ∃ q, sqHi a b = q := ⟨_, rfl⟩
  rw [ep, eq] at KC ⊢
  clear ep eq hop hv hw
  have hE : Below w.heap.size w (((w.alloc (.cells #[.int .i64 a, .int .i64 b] 45)).alloc (.cells #[.int .i64 c, .int .i64 d] 45)).alloc (.cells #[.int .i64 0, .int .i64 0] 45)) := allocs_below [.cells #[.int .i64 a, .int .i64 b] 45, .cells #[.int .i64 c, .int .i64 d] 45, .cells #[.int .i64 0, .int .i64 0] 45] w
  have HX := Lib.hid (show Blk (((w.alloc (.cells #[.int .i64 a, .int .i64 b] 45)).alloc (.cells #[.int .i64 c, .int .i64 d] 45)).alloc (.cells #[.int .i64 0, .int .i64 0] 45)) w.heap.size (.cells #[.int .i64 a, .int .i64 b] 45) from allocs_at [.cells #[.int .i64 a, .int .i64 b] 45, .cells #[.int .i64 c, .int .i64 d] 45, .cells #[.int .i64 0, .int .i64 0] 45] w 0 _ rfl)
  have HY := Lib.hid (show Blk (((w.alloc (.cells #[.int .i64 a, .int .i64 b] 45)).alloc (.cells #[.int .i64 c, .int .i64 d] 45)).alloc (.cells #[.int .i64 0, .int .i64 0] 45)) (w.heap.size + 1) (.cells #[.int .i64 c, .int .i64 d] 45) from allocs_at [.cells #[.int .i64 a, .int .i64 b] 45, .cells #[.int .i64 c, .int .i64 d] 45, .cells #[.int .i64 0, .int .i64 0] 45] w 1 _ rfl)
  have HZ := Lib.hid (show Blk (((w.alloc (.cells #[.int .i64 a, .int .i64 b] 45)).alloc (.cells #[.int .i64 c, .int .i64 d] 45)).alloc (.cells #[.int .i64 0, .int .i64 0] 45)) (w.heap.size + 1 + 1) (.cells #[.int .i64 0, .int .i64 0] 45) from allocs_at [.cells #[.int .i64 a, .int .i64 b] 45, .cells #[.int .i64 c, .int .i64 d] 45, .cells #[.int .i64 0, .int .i64 0] 45] w 2 _ rfl)
  have HB := Lib.hid hE
  have hbl := fun (w1 : World) (h : Below (((w.alloc (.cells #[.int .i64 a, .int .i64 b] 45)).alloc (.cells #[.int .i64 c, .int .i64 d] 45)).alloc (.cells #[.int .i64 0, .int .i64 0] 45)).heap.size (((w.alloc (.cells #[.int .i64 a, .int .i64 b] 45)).alloc (.cells #[.int .i64 c, .int .i64 d] 45)).alloc (.cells #[.int .i64 0, .int .i64 0] 45)) w1) (p q : Int) => (((below_then HB.out h).setCell (p := ⟨w.heap.size + 1 + 1, 0, none⟩) (by dsimp only; omega) (.int .i64 p)).setCell (p := ⟨w.heap.size + 1 + 1, 1, none⟩) (by dsimp only; omega) (.int .i64 q))
  have x0 := heapN_cellj HX.out (k := 0) rfl
  have x1 := heapN_cellj HX.out (k := 1) rfl
  have y0 := heapN_cellj HY.out (k := 0) rfl
  have y1 := heapN_cellj HY.out (k := 1) rfl
  clear hE ha1 ha2 hb1 hb2 hab hc1 hc2 hd1 hd2 hcd
  go_enter Try.func73, Try.ntmps73
  go_wp2_with (fail)
  refine (KC.out _).mono ?_
  rintro e w1 ⟨rfl, hB⟩
  clear x0 x1 y0 y1
  have hz := HZ.out.grow hB
  have HW := Lib.hid (hbl w1 hB)
  have y0 := heapN_cellj hz (k := 0) rfl
  have y1 := heapN_cellj hz (k := 1) rfl
  have z0 : w1.frozen? ⟨w.heap.size + 1 + 1, 0, none⟩ = false := by simp [World.frozen?, show w1.heap[w.heap.size + 1 + 1]? = _ from hz]
  have z1 : w1.frozen? ⟨w.heap.size + 1 + 1, 1, none⟩ = false := by simp [World.frozen?, show w1.heap[w.heap.size + 1 + 1]? = _ from hz]
  clear hB hbl HX HY HB HZ
  go_wp2_with (fail)
  have hs := cellsT_setN (o := 1) (u := .int .i64 q) (cellsT_setN (o := 0) (u := .int .i64 p) hz)
  have u0 := heapN_cellj hs (k := 0) (u := .int .i64 p) rfl
  have u1 := heapN_cellj hs (k := 1) (u := .int .i64 q) rfl
  exact bodyPost_ret (v := .agg #[.int .i64 p, .int .i64 q]) (by simp [results, Try.results73, go_sem, u0, u1]) rfl ⟨rfl, HW.out _ _⟩
set_option maxHeartbeats 4000000 in
theorem rop_7 (a b c d : Int) (w : World) (hv : VI a b) (hw : VI c d) : Calls Try.prog 73 #[.int .i64 7, .agg #[.int .i64 a, .int .i64 b], .agg #[.int .i64 c, .int .i64 d]] w fun e w' => e = .returned (.agg #[.int .i64 (opI 7 (a, b) (c, d)).1, .int .i64 (opI 7 (a, b) (c, d)).2]) ∧ Below w.heap.size w w' := by
  obtain ⟨ha1, ha2, hb1, hb2, hab⟩ := hv.bd
  obtain ⟨hc1, hc2, hd1, hd2, hcd⟩ := hw.bd
  have KC := Lib.hid (fun w => r2add a b c d w ha1 ha2 hb1 hb2 hc1 hc2 hd1 hd2)
  have hop : opI 7 (a, b) (c, d) = (addLo a b c d, addHi a b c d) := by simp [opI]
  rw [hop]
  dsimp only
  obtain ⟨p, ep⟩ : ∃ p, addLo a b c d = p := ⟨_, rfl⟩
  obtain ⟨q, eq⟩ : ∃ q, addHi a b c d = q := ⟨_, rfl⟩
  rw [ep, eq] at KC ⊢
  clear ep eq hop hv hw
  have hE : Below w.heap.size w (((w.alloc (.cells #[.int .i64 a, .int .i64 b] 45)).alloc (.cells #[.int .i64 c, .int .i64 d] 45)).alloc (.cells #[.int .i64 0, .int .i64 0] 45)) := allocs_below [.cells #[.int .i64 a, .int .i64 b] 45, .cells #[.int .i64 c, .int .i64 d] 45, .cells #[.int .i64 0, .int .i64 0] 45] w
  have HX := Lib.hid (show Blk (((w.alloc (.cells #[.int .i64 a, .int .i64 b] 45)).alloc (.cells #[.int .i64 c, .int .i64 d] 45)).alloc (.cells #[.int .i64 0, .int .i64 0] 45)) w.heap.size (.cells #[.int .i64 a, .int .i64 b] 45) from allocs_at [.cells #[.int .i64 a, .int .i64 b] 45, .cells #[.int .i64 c, .int .i64 d] 45, .cells #[.int .i64 0, .int .i64 0] 45] w 0 _ rfl)
  have HY := Lib.hid (show Blk (((w.alloc (.cells #[.int .i64 a, .int .i64 b] 45)).alloc (.cells #[.int .i64 c, .int .i64 d] 45)).alloc (.cells #[.int .i64 0, .int .i64 0] 45)) (w.heap.size + 1) (.cells #[.int .i64 c, .int .i64 d] 45) from allocs_at [.cells #[.int .i64 a, .int .i64 b] 45, .cells #[.int .i64 c, .int .i64 d] 45, .cells #[.int .i64 0, .int .i64 0] 45] w 1 _ rfl)
  have HZ := Lib.hid (show Blk (((w.alloc (.cells #[.int .i64 a, .int .i64 b] 45)).alloc (.cells #[.int .i64 c, .int .i64 d] 45)).alloc (.cells #[.int .i64 0, .int .i64 0] 45)) (w.heap.size + 1 + 1) (.cells #[.int .i64 0, .int .i64 0] 45) from allocs_at [.cells #[.int .i64 a, .int .i64 b] 45, .cells #[.int .i64 c, .int .i64 d] 45, .cells #[.int .i64 0, .int .i64 0] 45] w 2 _ rfl)
  have HB := Lib.hid hE
  have hbl := fun (w1 : World) (h : Below (((w.alloc (.cells #[.int .i64 a, .int .i64 b] 45)).alloc (.cells #[.int .i64 c, .int .i64 d] 45)).alloc (.cells #[.int .i64 0, .int .i64 0] 45)).heap.size (((w.alloc (.cells #[.int .i64 a, .int .i64 b] 45)).alloc (.cells #[.int .i64 c, .int .i64 d] 45)).alloc (.cells #[.int .i64 0, .int .i64 0] 45)) w1) (p q : Int) => (((below_then HB.out h).setCell (p := ⟨w.heap.size + 1 + 1, 0, none⟩) (by dsimp only; omega) (.int .i64 p)).setCell (p := ⟨w.heap.size + 1 + 1, 1, none⟩) (by dsimp only; omega) (.int .i64 q))
  have x0 := heapN_cellj HX.out (k := 0) rfl
  have x1 := heapN_cellj HX.out (k := 1) rfl
  have y0 := heapN_cellj HY.out (k := 0) rfl
  have y1 := heapN_cellj HY.out (k := 1) rfl
  clear hE ha1 ha2 hb1 hb2 hab hc1 hc2 hd1 hd2 hcd
  go_enter Try.func73, Try.ntmps73
  go_wp2_with (fail)
  refine (KC.out _).mono ?_
  rintro e w1 ⟨rfl, hB⟩
  clear x0 x1 y0 y1
  have hz := HZ.out.grow hB
  have HW := Lib.hid (hbl w1 hB)
  have y0 := heapN_cellj hz (k := 0) rfl
  have y1 := heapN_cellj hz (k := 1) rfl
  have z0 : w1.frozen? ⟨w.heap.size + 1 + 1, 0, none⟩ = false := by simp [World.frozen?, show w1.heap[w.heap.size + 1 + 1]? = _ from hz]
  have z1 : w1.frozen? ⟨w.heap.size + 1 + 1, 1, none⟩ = false := by simp [World.frozen?, show w1.heap[w.heap.size + 1 + 1]? = _ from hz]
  clear hB hbl HX HY HB HZ
  go_wp2_with (fail)
  have hs := cellsT_setN (o := 1) (u := .int .i64 q) (cellsT_setN (o := 0) (u := .int .i64 p) hz)
  have u0 := heapN_cellj hs (k := 0) (u := .int .i64 p) rfl
  have u1 := heapN_cellj hs (k := 1) (u := .int .i64 q) rfl
  exact bodyPost_ret (v := .agg #[.int .i64 p, .int .i64 q]) (by simp [results, Try.results73, go_sem, u0, u1]) rfl ⟨rfl, HW.out _ _⟩
set_option maxHeartbeats 4000000 in
theorem rop_8 (a b c d : Int) (w : World) (hv : VI a b) (hw : VI c d) : Calls Try.prog 73 #[.int .i64 8, .agg #[.int .i64 a, .int .i64 b], .agg #[.int .i64 c, .int .i64 d]] w fun e w' => e = .returned (.agg #[.int .i64 (opI 8 (a, b) (c, d)).1, .int .i64 (opI 8 (a, b) (c, d)).2]) ∧ Below w.heap.size w w' := by
  obtain ⟨ha1, ha2, hb1, hb2, hab⟩ := hv.bd
  obtain ⟨hc1, hc2, hd1, hd2, hcd⟩ := hw.bd
  have KC := Lib.hid (fun w => r2sub a b c d w ha1 ha2 hb1 hb2 hc1 hc2 hd1 hd2)
  have hop : opI 8 (a, b) (c, d) = (addLo a b (-d) (-c), addHi a b (-d) (-c)) := by simp [opI]
  rw [hop]
  dsimp only
  obtain ⟨p, ep⟩ : ∃ p, addLo a b (-d) (-c) = p := ⟨_, rfl⟩
  obtain ⟨q, eq⟩ : ∃ q, addHi a b (-d) (-c) = q := ⟨_, rfl⟩
  rw [ep, eq] at KC ⊢
  clear ep eq hop hv hw
  have hE : Below w.heap.size w (((w.alloc (.cells #[.int .i64 a, .int .i64 b] 45)).alloc (.cells #[.int .i64 c, .int .i64 d] 45)).alloc (.cells #[.int .i64 0, .int .i64 0] 45)) := allocs_below [.cells #[.int .i64 a, .int .i64 b] 45, .cells #[.int .i64 c, .int .i64 d] 45, .cells #[.int .i64 0, .int .i64 0] 45] w
  have HX := Lib.hid (show Blk (((w.alloc (.cells #[.int .i64 a, .int .i64 b] 45)).alloc (.cells #[.int .i64 c, .int .i64 d] 45)).alloc (.cells #[.int .i64 0, .int .i64 0] 45)) w.heap.size (.cells #[.int .i64 a, .int .i64 b] 45) from allocs_at [.cells #[.int .i64 a, .int .i64 b] 45, .cells #[.int .i64 c, .int .i64 d] 45, .cells #[.int .i64 0, .int .i64 0] 45] w 0 _ rfl)
  have HY := Lib.hid (show Blk (((w.alloc (.cells #[.int .i64 a, .int .i64 b] 45)).alloc (.cells #[.int .i64 c, .int .i64 d] 45)).alloc (.cells #[.int .i64 0, .int .i64 0] 45)) (w.heap.size + 1) (.cells #[.int .i64 c, .int .i64 d] 45) from allocs_at [.cells #[.int .i64 a, .int .i64 b] 45, .cells #[.int .i64 c, .int .i64 d] 45, .cells #[.int .i64 0, .int .i64 0] 45] w 1 _ rfl)
  have HZ := Lib.hid (show Blk (((w.alloc (.cells #[.int .i64 a, .int .i64 b] 45)).alloc (.cells #[.int .i64 c, .int .i64 d] 45)).alloc (.cells #[.int .i64 0, .int .i64 0] 45)) (w.heap.size + 1 + 1) (.cells #[.int .i64 0, .int .i64 0] 45) from allocs_at [.cells #[.int .i64 a, .int .i64 b] 45, .cells #[.int .i64 c, .int .i64 d] 45, .cells #[.int .i64 0, .int .i64 0] 45] w 2 _ rfl)
  have HB := Lib.hid hE
  have hbl := fun (w1 : World) (h : Below (((w.alloc (.cells #[.int .i64 a, .int .i64 b] 45)).alloc (.cells #[.int .i64 c, .int .i64 d] 45)).alloc (.cells #[.int .i64 0, .int .i64 0] 45)).heap.size (((w.alloc (.cells #[.int .i64 a, .int .i64 b] 45)).alloc (.cells #[.int .i64 c, .int .i64 d] 45)).alloc (.cells #[.int .i64 0, .int .i64 0] 45)) w1) (p q : Int) => (((below_then HB.out h).setCell (p := ⟨w.heap.size + 1 + 1, 0, none⟩) (by dsimp only; omega) (.int .i64 p)).setCell (p := ⟨w.heap.size + 1 + 1, 1, none⟩) (by dsimp only; omega) (.int .i64 q))
  have x0 := heapN_cellj HX.out (k := 0) rfl
  have x1 := heapN_cellj HX.out (k := 1) rfl
  have y0 := heapN_cellj HY.out (k := 0) rfl
  have y1 := heapN_cellj HY.out (k := 1) rfl
  clear hE ha1 ha2 hb1 hb2 hab hc1 hc2 hd1 hd2 hcd
  go_enter Try.func73, Try.ntmps73
  go_wp2_with (fail)
  refine (KC.out _).mono ?_
  rintro e w1 ⟨rfl, hB⟩
  clear x0 x1 y0 y1
  have hz := HZ.out.grow hB
  have HW := Lib.hid (hbl w1 hB)
  have y0 := heapN_cellj hz (k := 0) rfl
  have y1 := heapN_cellj hz (k := 1) rfl
  have z0 : w1.frozen? ⟨w.heap.size + 1 + 1, 0, none⟩ = false := by simp [World.frozen?, show w1.heap[w.heap.size + 1 + 1]? = _ from hz]
  have z1 : w1.frozen? ⟨w.heap.size + 1 + 1, 1, none⟩ = false := by simp [World.frozen?, show w1.heap[w.heap.size + 1 + 1]? = _ from hz]
  clear hB hbl HX HY HB HZ
  go_wp2_with (fail)
  have hs := cellsT_setN (o := 1) (u := .int .i64 q) (cellsT_setN (o := 0) (u := .int .i64 p) hz)
  have u0 := heapN_cellj hs (k := 0) (u := .int .i64 p) rfl
  have u1 := heapN_cellj hs (k := 1) (u := .int .i64 q) rfl
  exact bodyPost_ret (v := .agg #[.int .i64 p, .int .i64 q]) (by simp [results, Try.results73, go_sem, u0, u1]) rfl ⟨rfl, HW.out _ _⟩
set_option maxHeartbeats 4000000 in
theorem rop_9 (a b c d : Int) (w : World) (hv : VI a b) (hw : VI c d) : Calls Try.prog 73 #[.int .i64 9, .agg #[.int .i64 a, .int .i64 b], .agg #[.int .i64 c, .int .i64 d]] w fun e w' => e = .returned (.agg #[.int .i64 (opI 9 (a, b) (c, d)).1, .int .i64 (opI 9 (a, b) (c, d)).2]) ∧ Below w.heap.size w w' := by
  obtain ⟨ha1, ha2, hb1, hb2, hab⟩ := hv.bd
  obtain ⟨hc1, hc2, hd1, hd2, hcd⟩ := hw.bd
  have KC := Lib.hid (fun w => r2mul a b c d w hv hw)
  have hop : opI 9 (a, b) (c, d) = (mulLo a b c d, mulHi a b c d) := by simp [opI]
  rw [hop]
  dsimp only
  obtain ⟨p, ep⟩ : ∃ p, mulLo a b c d = p := ⟨_, rfl⟩
  obtain ⟨q, eq⟩ : ∃ q, mulHi a b c d = q := ⟨_, rfl⟩
  rw [ep, eq] at KC ⊢
  clear ep eq hop hv hw
  have hE : Below w.heap.size w (((w.alloc (.cells #[.int .i64 a, .int .i64 b] 45)).alloc (.cells #[.int .i64 c, .int .i64 d] 45)).alloc (.cells #[.int .i64 0, .int .i64 0] 45)) := allocs_below [.cells #[.int .i64 a, .int .i64 b] 45, .cells #[.int .i64 c, .int .i64 d] 45, .cells #[.int .i64 0, .int .i64 0] 45] w
  have HX := Lib.hid (show Blk (((w.alloc (.cells #[.int .i64 a, .int .i64 b] 45)).alloc (.cells #[.int .i64 c, .int .i64 d] 45)).alloc (.cells #[.int .i64 0, .int .i64 0] 45)) w.heap.size (.cells #[.int .i64 a, .int .i64 b] 45) from allocs_at [.cells #[.int .i64 a, .int .i64 b] 45, .cells #[.int .i64 c, .int .i64 d] 45, .cells #[.int .i64 0, .int .i64 0] 45] w 0 _ rfl)
  have HY := Lib.hid (show Blk (((w.alloc (.cells #[.int .i64 a, .int .i64 b] 45)).alloc (.cells #[.int .i64 c, .int .i64 d] 45)).alloc (.cells #[.int .i64 0, .int .i64 0] 45)) (w.heap.size + 1) (.cells #[.int .i64 c, .int .i64 d] 45) from allocs_at [.cells #[.int .i64 a, .int .i64 b] 45, .cells #[.int .i64 c, .int .i64 d] 45, .cells #[.int .i64 0, .int .i64 0] 45] w 1 _ rfl)
  have HZ := Lib.hid (show Blk (((w.alloc (.cells #[.int .i64 a, .int .i64 b] 45)).alloc (.cells #[.int .i64 c, .int .i64 d] 45)).alloc (.cells #[.int .i64 0, .int .i64 0] 45)) (w.heap.size + 1 + 1) (.cells #[.int .i64 0, .int .i64 0] 45) from allocs_at [.cells #[.int .i64 a, .int .i64 b] 45, .cells #[.int .i64 c, .int .i64 d] 45, .cells #[.int .i64 0, .int .i64 0] 45] w 2 _ rfl)
  have HB := Lib.hid hE
  have hbl := fun (w1 : World) (h : Below (((w.alloc (.cells #[.int .i64 a, .int .i64 b] 45)).alloc (.cells #[.int .i64 c, .int .i64 d] 45)).alloc (.cells #[.int .i64 0, .int .i64 0] 45)).heap.size (((w.alloc (.cells #[.int .i64 a, .int .i64 b] 45)).alloc (.cells #[.int .i64 c, .int .i64 d] 45)).alloc (.cells #[.int .i64 0, .int .i64 0] 45)) w1) (p q : Int) => (((below_then HB.out h).setCell (p := ⟨w.heap.size + 1 + 1, 0, none⟩) (by dsimp only; omega) (.int .i64 p)).setCell (p := ⟨w.heap.size + 1 + 1, 1, none⟩) (by dsimp only; omega) (.int .i64 q))
  have x0 := heapN_cellj HX.out (k := 0) rfl
  have x1 := heapN_cellj HX.out (k := 1) rfl
  have y0 := heapN_cellj HY.out (k := 0) rfl
  have y1 := heapN_cellj HY.out (k := 1) rfl
  clear hE ha1 ha2 hb1 hb2 hab hc1 hc2 hd1 hd2 hcd
  go_enter Try.func73, Try.ntmps73
  go_wp2_with (fail)
  refine (KC.out _).mono ?_
  rintro e w1 ⟨rfl, hB⟩
  clear x0 x1 y0 y1
  have hz := HZ.out.grow hB
  have HW := Lib.hid (hbl w1 hB)
  have y0 := heapN_cellj hz (k := 0) rfl
  have y1 := heapN_cellj hz (k := 1) rfl
  have z0 : w1.frozen? ⟨w.heap.size + 1 + 1, 0, none⟩ = false := by simp [World.frozen?, show w1.heap[w.heap.size + 1 + 1]? = _ from hz]
  have z1 : w1.frozen? ⟨w.heap.size + 1 + 1, 1, none⟩ = false := by simp [World.frozen?, show w1.heap[w.heap.size + 1 + 1]? = _ from hz]
  clear hB hbl HX HY HB HZ
  go_wp2_with (fail)
  have hs := cellsT_setN (o := 1) (u := .int .i64 q) (cellsT_setN (o := 0) (u := .int .i64 p) hz)
  have u0 := heapN_cellj hs (k := 0) (u := .int .i64 p) rfl
  have u1 := heapN_cellj hs (k := 1) (u := .int .i64 q) rfl
  exact bodyPost_ret (v := .agg #[.int .i64 p, .int .i64 q]) (by simp [results, Try.results73, go_sem, u0, u1]) rfl ⟨rfl, HW.out _ _⟩
set_option maxHeartbeats 4000000 in
theorem rop_10 (a b c d : Int) (w : World) (hv : VI a b) (hw : VI c d) : Calls Try.prog 73 #[.int .i64 10, .agg #[.int .i64 a, .int .i64 b], .agg #[.int .i64 c, .int .i64 d]] w fun e w' => e = .returned (.agg #[.int .i64 (opI 10 (a, b) (c, d)).1, .int .i64 (opI 10 (a, b) (c, d)).2]) ∧ Below w.heap.size w w' := by
  obtain ⟨ha1, ha2, hb1, hb2, hab⟩ := hv.bd
  obtain ⟨hc1, hc2, hd1, hd2, hcd⟩ := hw.bd
  have KC := Lib.hid (fun w => r2div a b c d w hv hw)
  have hop : opI 10 (a, b) (c, d) = (divLo a b c d, divHi a b c d) := by simp [opI]
  rw [hop]
  dsimp only
  obtain ⟨p, ep⟩ : ∃ p, divLo a b c d = p := ⟨_, rfl⟩
  obtain ⟨q, eq⟩ : ∃ q, divHi a b c d = q := ⟨_, rfl⟩
  rw [ep, eq] at KC ⊢
  clear ep eq hop hv hw
  have hE : Below w.heap.size w (((w.alloc (.cells #[.int .i64 a, .int .i64 b] 45)).alloc (.cells #[.int .i64 c, .int .i64 d] 45)).alloc (.cells #[.int .i64 0, .int .i64 0] 45)) := allocs_below [.cells #[.int .i64 a, .int .i64 b] 45, .cells #[.int .i64 c, .int .i64 d] 45, .cells #[.int .i64 0, .int .i64 0] 45] w
  have HX := Lib.hid (show Blk (((w.alloc (.cells #[.int .i64 a, .int .i64 b] 45)).alloc (.cells #[.int .i64 c, .int .i64 d] 45)).alloc (.cells #[.int .i64 0, .int .i64 0] 45)) w.heap.size (.cells #[.int .i64 a, .int .i64 b] 45) from allocs_at [.cells #[.int .i64 a, .int .i64 b] 45, .cells #[.int .i64 c, .int .i64 d] 45, .cells #[.int .i64 0, .int .i64 0] 45] w 0 _ rfl)
  have HY := Lib.hid (show Blk (((w.alloc (.cells #[.int .i64 a, .int .i64 b] 45)).alloc (.cells #[.int .i64 c, .int .i64 d] 45)).alloc (.cells #[.int .i64 0, .int .i64 0] 45)) (w.heap.size + 1) (.cells #[.int .i64 c, .int .i64 d] 45) from allocs_at [.cells #[.int .i64 a, .int .i64 b] 45, .cells #[.int .i64 c, .int .i64 d] 45, .cells #[.int .i64 0, .int .i64 0] 45] w 1 _ rfl)
  have HZ := Lib.hid (show Blk (((w.alloc (.cells #[.int .i64 a, .int .i64 b] 45)).alloc (.cells #[.int .i64 c, .int .i64 d] 45)).alloc (.cells #[.int .i64 0, .int .i64 0] 45)) (w.heap.size + 1 + 1) (.cells #[.int .i64 0, .int .i64 0] 45) from allocs_at [.cells #[.int .i64 a, .int .i64 b] 45, .cells #[.int .i64 c, .int .i64 d] 45, .cells #[.int .i64 0, .int .i64 0] 45] w 2 _ rfl)
  have HB := Lib.hid hE
  have hbl := fun (w1 : World) (h : Below (((w.alloc (.cells #[.int .i64 a, .int .i64 b] 45)).alloc (.cells #[.int .i64 c, .int .i64 d] 45)).alloc (.cells #[.int .i64 0, .int .i64 0] 45)).heap.size (((w.alloc (.cells #[.int .i64 a, .int .i64 b] 45)).alloc (.cells #[.int .i64 c, .int .i64 d] 45)).alloc (.cells #[.int .i64 0, .int .i64 0] 45)) w1) (p q : Int) => (((below_then HB.out h).setCell (p := ⟨w.heap.size + 1 + 1, 0, none⟩) (by dsimp only; omega) (.int .i64 p)).setCell (p := ⟨w.heap.size + 1 + 1, 1, none⟩) (by dsimp only; omega) (.int .i64 q))
  have x0 := heapN_cellj HX.out (k := 0) rfl
  have x1 := heapN_cellj HX.out (k := 1) rfl
  have y0 := heapN_cellj HY.out (k := 0) rfl
  have y1 := heapN_cellj HY.out (k := 1) rfl
  clear hE ha1 ha2 hb1 hb2 hab hc1 hc2 hd1 hd2 hcd
  go_enter Try.func73, Try.ntmps73
  go_wp2_with (fail)
  refine (KC.out _).mono ?_
  rintro e w1 ⟨rfl, hB⟩
  clear x0 x1 y0 y1
  have hz := HZ.out.grow hB
  have HW := Lib.hid (hbl w1 hB)
  have y0 := heapN_cellj hz (k := 0) rfl
  have y1 := heapN_cellj hz (k := 1) rfl
  have z0 : w1.frozen? ⟨w.heap.size + 1 + 1, 0, none⟩ = false := by simp [World.frozen?, show w1.heap[w.heap.size + 1 + 1]? = _ from hz]
  have z1 : w1.frozen? ⟨w.heap.size + 1 + 1, 1, none⟩ = false := by simp [World.frozen?, show w1.heap[w.heap.size + 1 + 1]? = _ from hz]
  clear hB hbl HX HY HB HZ
  go_wp2_with (fail)
  have hs := cellsT_setN (o := 1) (u := .int .i64 q) (cellsT_setN (o := 0) (u := .int .i64 p) hz)
  have u0 := heapN_cellj hs (k := 0) (u := .int .i64 p) rfl
  have u1 := heapN_cellj hs (k := 1) (u := .int .i64 q) rfl
  exact bodyPost_ret (v := .agg #[.int .i64 p, .int .i64 q]) (by simp [results, Try.results73, go_sem, u0, u1]) rfl ⟨rfl, HW.out _ _⟩
set_option maxHeartbeats 4000000 in
theorem rop_6_0 (a b c d : Int) (w : World) (hv : VI a b) (hw : VI c d) (h : a < 0) : Calls Try.prog 73 #[.int .i64 6, .agg #[.int .i64 a, .int .i64 b], .agg #[.int .i64 c, .int .i64 d]] w fun e w' => e = .returned (.agg #[.int .i64 (opI 6 (a, b) (c, d)).1, .int .i64 (opI 6 (a, b) (c, d)).2]) ∧ Below w.heap.size w w' := by
  obtain ⟨ha1, ha2, hb1, hb2, hab⟩ := hv.bd
  obtain ⟨hc1, hc2, hd1, hd2, hcd⟩ := hw.bd
  have hop : opI 6 (a, b) (c, d) = (-2147483648, 2147483648) := by simp [opI, rtI, h]
  rw [hop]
  dsimp only
  clear hop hv hw
  have hE : Below w.heap.size w (((w.alloc (.cells #[.int .i64 a, .int .i64 b] 45)).alloc (.cells #[.int .i64 c, .int .i64 d] 45)).alloc (.cells #[.int .i64 0, .int .i64 0] 45)) := allocs_below [.cells #[.int .i64 a, .int .i64 b] 45, .cells #[.int .i64 c, .int .i64 d] 45, .cells #[.int .i64 0, .int .i64 0] 45] w
  have HX := Lib.hid (show Blk (((w.alloc (.cells #[.int .i64 a, .int .i64 b] 45)).alloc (.cells #[.int .i64 c, .int .i64 d] 45)).alloc (.cells #[.int .i64 0, .int .i64 0] 45)) w.heap.size (.cells #[.int .i64 a, .int .i64 b] 45) from allocs_at [.cells #[.int .i64 a, .int .i64 b] 45, .cells #[.int .i64 c, .int .i64 d] 45, .cells #[.int .i64 0, .int .i64 0] 45] w 0 _ rfl)
  have HY := Lib.hid (show Blk (((w.alloc (.cells #[.int .i64 a, .int .i64 b] 45)).alloc (.cells #[.int .i64 c, .int .i64 d] 45)).alloc (.cells #[.int .i64 0, .int .i64 0] 45)) (w.heap.size + 1) (.cells #[.int .i64 c, .int .i64 d] 45) from allocs_at [.cells #[.int .i64 a, .int .i64 b] 45, .cells #[.int .i64 c, .int .i64 d] 45, .cells #[.int .i64 0, .int .i64 0] 45] w 1 _ rfl)
  have HZ := Lib.hid (show Blk (((w.alloc (.cells #[.int .i64 a, .int .i64 b] 45)).alloc (.cells #[.int .i64 c, .int .i64 d] 45)).alloc (.cells #[.int .i64 0, .int .i64 0] 45)) (w.heap.size + 1 + 1) (.cells #[.int .i64 0, .int .i64 0] 45) from allocs_at [.cells #[.int .i64 a, .int .i64 b] 45, .cells #[.int .i64 c, .int .i64 d] 45, .cells #[.int .i64 0, .int .i64 0] 45] w 2 _ rfl)
  have HB := Lib.hid hE
  have hbl := fun (w1 : World) (h : Below (((w.alloc (.cells #[.int .i64 a, .int .i64 b] 45)).alloc (.cells #[.int .i64 c, .int .i64 d] 45)).alloc (.cells #[.int .i64 0, .int .i64 0] 45)).heap.size (((w.alloc (.cells #[.int .i64 a, .int .i64 b] 45)).alloc (.cells #[.int .i64 c, .int .i64 d] 45)).alloc (.cells #[.int .i64 0, .int .i64 0] 45)) w1) (p q : Int) => (((below_then HB.out h).setCell (p := ⟨w.heap.size + 1 + 1, 0, none⟩) (by dsimp only; omega) (.int .i64 p)).setCell (p := ⟨w.heap.size + 1 + 1, 1, none⟩) (by dsimp only; omega) (.int .i64 q))
  have x0 := heapN_cellj HX.out (k := 0) rfl
  have x1 := heapN_cellj HX.out (k := 1) rfl
  have y0 := heapN_cellj HY.out (k := 0) rfl
  have y1 := heapN_cellj HY.out (k := 1) rfl
  clear hE ha1 ha2 hb1 hb2 hab hc1 hc2 hd1 hd2 hcd
  go_enter Try.func73, Try.ntmps73
  go_wp2_with (fail)
  refine (r2entire _).mono ?_
  rintro e w1 ⟨rfl, hB⟩
  clear x0 x1 y0 y1
  have hz := HZ.out.grow hB
  have HW := Lib.hid (hbl w1 hB)
  have y0 := heapN_cellj hz (k := 0) rfl
  have y1 := heapN_cellj hz (k := 1) rfl
  have z0 : w1.frozen? ⟨w.heap.size + 1 + 1, 0, none⟩ = false := by simp [World.frozen?, show w1.heap[w.heap.size + 1 + 1]? = _ from hz]
  have z1 : w1.frozen? ⟨w.heap.size + 1 + 1, 1, none⟩ = false := by simp [World.frozen?, show w1.heap[w.heap.size + 1 + 1]? = _ from hz]
  clear hB hbl HX HY HB HZ
  go_wp2_with (fail)
  have hs := cellsT_setN (o := 1) (u := .int .i64 2147483648) (cellsT_setN (o := 0) (u := .int .i64 (-2147483648)) hz)
  have u0 := heapN_cellj hs (k := 0) (u := .int .i64 (-2147483648)) rfl
  have u1 := heapN_cellj hs (k := 1) (u := .int .i64 2147483648) rfl
  exact bodyPost_ret (v := .agg #[.int .i64 (-2147483648), .int .i64 2147483648]) (by simp [results, Try.results73, go_sem, u0, u1]) rfl ⟨rfl, HW.out _ _⟩
set_option maxHeartbeats 4000000 in
theorem rop_6_1 (a b c d : Int) (w : World) (hv : VI a b) (hw : VI c d) (h : ¬ a < 0) : Calls Try.prog 73 #[.int .i64 6, .agg #[.int .i64 a, .int .i64 b], .agg #[.int .i64 c, .int .i64 d]] w fun e w' => e = .returned (.agg #[.int .i64 (opI 6 (a, b) (c, d)).1, .int .i64 (opI 6 (a, b) (c, d)).2]) ∧ Below w.heap.size w w' := by
  obtain ⟨ha1, ha2, hb1, hb2, hab⟩ := hv.bd
  obtain ⟨hc1, hc2, hd1, hd2, hcd⟩ := hw.bd
  have hne : ¬ Ent a b := fun h2 => by have := h2.1; omega
  have KC := Lib.hid (fun w => r2sqrt_pos a b w hne hab (by omega) hb2)
  have hop : opI 6 (a, b) (c, d) = (mkLo (rt1 a) (rt2 b), mkHi (rt1 a) (rt2 b)) := by simp [opI, rtI, h]
  rw [hop]
  dsimp only
  obtain ⟨p, ep⟩ : ∃ p, mkLo (rt1 a) (rt2 b) = p := ⟨_, rfl⟩
  obtain ⟨q, eq⟩ : ∃ q, mkHi (rt1 a) (rt2 b) = q := ⟨_, rfl⟩
  rw [ep, eq] at KC ⊢
  clear ep eq hop hv hw hne
  have hE : Below w.heap.size w (((w.alloc (.cells #[.int .i64 a, .int .i64 b] 45)).alloc (.cells #[.int .i64 c, .int .i64 d] 45)).alloc (.cells #[.int .i64 0, .int .i64 0] 45)) := allocs_below [.cells #[.int .i64 a, .int .i64 b] 45, .cells #[.int .i64 c, .int .i64 d] 45, .cells #[.int .i64 0, .int .i64 0] 45] w
  have HX := Lib.hid (show Blk (((w.alloc (.cells #[.int .i64 a, .int .i64 b] 45)).alloc (.cells #[.int .i64 c, .int .i64 d] 45)).alloc (.cells #[.int .i64 0, .int .i64 0] 45)) w.heap.size (.cells #[.int .i64 a, .int .i64 b] 45) from allocs_at [.cells #[.int .i64 a, .int .i64 b] 45, .cells #[.int .i64 c, .int .i64 d] 45, .cells #[.int .i64 0, .int .i64 0] 45] w 0 _ rfl)
  have HY := Lib.hid (show Blk (((w.alloc (.cells #[.int .i64 a, .int .i64 b] 45)).alloc (.cells #[.int .i64 c, .int .i64 d] 45)).alloc (.cells #[.int .i64 0, .int .i64 0] 45)) (w.heap.size + 1) (.cells #[.int .i64 c, .int .i64 d] 45) from allocs_at [.cells #[.int .i64 a, .int .i64 b] 45, .cells #[.int .i64 c, .int .i64 d] 45, .cells #[.int .i64 0, .int .i64 0] 45] w 1 _ rfl)
  have HZ := Lib.hid (show Blk (((w.alloc (.cells #[.int .i64 a, .int .i64 b] 45)).alloc (.cells #[.int .i64 c, .int .i64 d] 45)).alloc (.cells #[.int .i64 0, .int .i64 0] 45)) (w.heap.size + 1 + 1) (.cells #[.int .i64 0, .int .i64 0] 45) from allocs_at [.cells #[.int .i64 a, .int .i64 b] 45, .cells #[.int .i64 c, .int .i64 d] 45, .cells #[.int .i64 0, .int .i64 0] 45] w 2 _ rfl)
  have HB := Lib.hid hE
  have hbl := fun (w1 : World) (h : Below (((w.alloc (.cells #[.int .i64 a, .int .i64 b] 45)).alloc (.cells #[.int .i64 c, .int .i64 d] 45)).alloc (.cells #[.int .i64 0, .int .i64 0] 45)).heap.size (((w.alloc (.cells #[.int .i64 a, .int .i64 b] 45)).alloc (.cells #[.int .i64 c, .int .i64 d] 45)).alloc (.cells #[.int .i64 0, .int .i64 0] 45)) w1) (p q : Int) => (((below_then HB.out h).setCell (p := ⟨w.heap.size + 1 + 1, 0, none⟩) (by dsimp only; omega) (.int .i64 p)).setCell (p := ⟨w.heap.size + 1 + 1, 1, none⟩) (by dsimp only; omega) (.int .i64 q))
  have x0 := heapN_cellj HX.out (k := 0) rfl
  have x1 := heapN_cellj HX.out (k := 1) rfl
  have y0 := heapN_cellj HY.out (k := 0) rfl
  have y1 := heapN_cellj HY.out (k := 1) rfl
  clear hE ha1 ha2 hb1 hb2 hab hc1 hc2 hd1 hd2 hcd
  go_enter Try.func73, Try.ntmps73
  go_wp2_with (fail)
  refine (KC.out _).mono ?_
  rintro e w1 ⟨rfl, hB⟩
  clear x0 x1 y0 y1
  have hz := (HZ.out.grow hB).grow ((Below.refl _ _).alloc (Nat.le_refl _) (.cells #[.int .i64 p, .int .i64 q] 45))
  have HW := Lib.hid (hbl _ (hB.alloc hB.size (.cells #[.int .i64 p, .int .i64 q] 45)))
  have y0 := heapN_cellj hz (k := 0) rfl
  have y1 := heapN_cellj hz (k := 1) rfl
  have z0 : (w1.alloc (.cells #[.int .i64 p, .int .i64 q] 45)).frozen? ⟨w.heap.size + 1 + 1, 0, none⟩ = false := by simp [World.frozen?, show (w1.alloc (.cells #[.int .i64 p, .int .i64 q] 45)).heap[w.heap.size + 1 + 1]? = _ from hz]
  have z1 : (w1.alloc (.cells #[.int .i64 p, .int .i64 q] 45)).frozen? ⟨w.heap.size + 1 + 1, 1, none⟩ = false := by simp [World.frozen?, show (w1.alloc (.cells #[.int .i64 p, .int .i64 q] 45)).heap[w.heap.size + 1 + 1]? = _ from hz]
  clear hB hbl HX HY HB HZ
  go_wp2_with (fail)
  have hs := cellsT_setN (o := 1) (u := .int .i64 q) (cellsT_setN (o := 0) (u := .int .i64 p) hz)
  have u0 := heapN_cellj hs (k := 0) (u := .int .i64 p) rfl
  have u1 := heapN_cellj hs (k := 1) (u := .int .i64 q) rfl
  exact bodyPost_ret (v := .agg #[.int .i64 p, .int .i64 q]) (by simp [results, Try.results73, go_sem, u0, u1]) rfl ⟨rfl, HW.out _ _⟩
theorem rop_ok (op a b c d : Int) (w : World) (ho : op = 4 ∨ op = 5 ∨ op = 6 ∨ op = 7 ∨ op = 8 ∨ op = 9 ∨ op = 10) (hv : VI a b) (hw : VI c d) : Calls Try.prog 73 #[.int .i64 op, .agg #[.int .i64 a, .int .i64 b], .agg #[.int .i64 c, .int .i64 d]] w fun e w' => e = .returned (.agg #[.int .i64 (opI op (a, b) (c, d)).1, .int .i64 (opI op (a, b) (c, d)).2]) ∧ Below w.heap.size w w' := by
  rcases ho with rfl | rfl | rfl | rfl | rfl | rfl | rfl
  · exact rop_4 a b c d w hv hw
  · exact rop_5 a b c d w hv hw
  · by_cases h : a < 0
    · exact rop_6_0 a b c d w hv hw h
    · exact rop_6_1 a b c d w hv hw h
  · exact rop_7 a b c d w hv hw
  · exact rop_8 a b c d w hv hw
  · exact rop_9 a b c d w hv hw
  · exact rop_10 a b c d w hv hw
theorem own_addrR {W : World} {B n c sz : Nat} {p : Option Addr} {t : TypeId} {xs : List Value} (h : W.ownsRow B t sz (.slice p n c) n xs) (hn : 0 < n) : ∃ g, p = some ⟨g, 0, none⟩ := by
  obtain ⟨m, rfl⟩ : ∃ m, n = m + 1 := ⟨n - 1, by omega⟩
  obtain ⟨g, cap, e⟩ := ownsRow_succ h
  cases e
  exact ⟨g, rfl⟩
/-- A row that grows beside an empty block. -/
structure RwI (B0 : Nat) (W5 : World) (Z : Nat) (v : Value) (l : List (Int × Int)) (W : World) : Prop where
  row : W.ownsRow B0 45 2 v l.length (cr encB l)
  ne : v.ownBlock ≠ some Z
  blk : Blk W Z (.cells #[] 45)
  bel : Below B0 W5 W
  sz : Z + 1 ≤ W.heap.size
  lo : B0 ≤ Z
theorem RwI.grow {B0 Z : Nat} {W5 W W' : World} {v : Value} {l : List (Int × Int)} (h : RwI B0 W5 Z v l W) (hB : Below W.heap.size W W') : RwI B0 W5 Z v l W' :=
  ⟨own_keptN h.row hB, h.ne, h.blk.grow hB, h.bel.trans (hB.mono (Nat.le_trans h.lo (Nat.le_of_succ_le h.sz))), Nat.le_trans h.sz hB.size, h.lo⟩
theorem RwI.push {B0 Z : Nat} {W5 W W' : World} {v v' : Value} {l : List (Int × Int)} {x : Int × Int} (h : RwI B0 W5 Z v l W) (ho : W'.ownsRow B0 45 2 v' (l.length + 1) (cr encB l ++ encB x)) (hg : W.grownBy W' v.ownBlock) (hat : v'.ownBlock = v.ownBlock ∨ v'.ownBlock = some W.heap.size) : RwI B0 W5 Z v' (l ++ [x]) W' := by
  refine ⟨by rw [List.length_append, List.length_singleton, cr_snoc]; exact ho, ?_, (hg.block _ (Array.getElem?_eq_some_iff.1 h.blk).1 (fun e => h.ne e.symm)).trans h.blk, Below.grown h.bel hg (Nat.le_trans h.lo (Nat.le_of_succ_le h.sz)) (fun i e => (h.row.lt i e).1), Nat.le_trans h.sz hg.size, h.lo⟩
  rcases hat with e | e
  · rw [e]; exact h.ne
  · rw [e]
    intro e2
    have := Option.some.inj e2
    have := h.sz
    omega
theorem RwI.cell {B0 Z : Nat} {W5 W : World} {g n c : Nat} {l : List (Int × Int)} (h : RwI B0 W5 Z (.slice (some ⟨g, 0, none⟩) n c) l W) {j : Nat} {p : Int × Int} (hj : l[j]? = some p) (hn : l.length = n) (G : Grown W) : G.w.cell? ⟨g, j * 2, none⟩ = some (.int .i64 p.1) ∧ G.w.cell? ⟨g, j * 2 + 1, none⟩ = some (.int .i64 p.2) := by
  have hr := own_keptN h.row G.h
  rw [hn] at hr
  have hlt := (List.getElem?_eq_some_iff.1 hj).1
  exact ⟨(hr.cellAt (j * 2) (by omega)).trans (cr_get encB_len j _ hj 0 _ rfl), (hr.cellAt (j * 2 + 1) (by omega)).trans (cr_get encB_len j _ hj 1 _ rfl)⟩
theorem vx_keptN {W W' : World} {b o n c : Nat} {l : List (Int × Int)} {row : Option Nat} (h : Vx W (.slice (some ⟨b, o, none⟩) n c) l) (hg : W.grownBy W' row) (hne : some b ≠ row) : Vx W' (.slice (some ⟨b, o, none⟩) n c) l := by
  obtain ⟨h1, p, cap, e, h2⟩ := h
  refine ⟨h1, p, cap, e, fun i x hx => ?_⟩
  obtain ⟨b', o', hp, h3, h4⟩ := h2 i x hx
  simp only [Value.slice.injEq] at e
  have hbb := e.1.trans hp
  simp only [Option.some.injEq, Addr.mk.injEq, and_true] at hbb
  obtain ⟨rfl, rfl⟩ := hbb
  have hb := hg.block b h3 hne
  exact ⟨b, o, hp, Nat.lt_of_lt_of_le h3 hg.size, fun j u hu => by
    have := h4 j u hu
    simp only [World.cell?, hb] at this ⊢
    exact this⟩
/-- A row that grows beside a row that is read. -/
structure RwJ (B0 : Nat) (W5 : World) (gl ol n c : Nat) (V : List (Int × Int)) (v : Value) (l : List (Int × Int)) (W : World) : Prop where
  row : W.ownsRow B0 45 2 v l.length (cr encB l)
  ne : v.ownBlock ≠ some gl
  old : Vx W (.slice (some ⟨gl, ol, none⟩) n c) V
  bel : Below B0 W5 W
  sz : B0 ≤ W.heap.size
  lt : gl < W.heap.size
theorem RwJ.grow {B0 gl ol n c : Nat} {W5 W W' : World} {V l : List (Int × Int)} {v : Value} (h : RwJ B0 W5 gl ol n c V v l W) (hB : Below W.heap.size W W') : RwJ B0 W5 gl ol n c V v l W' :=
  ⟨own_keptN h.row hB, h.ne, h.old.grow hB, h.bel.trans (hB.mono h.sz), Nat.le_trans h.sz hB.size, Nat.lt_of_lt_of_le h.lt hB.size⟩
theorem RwJ.push {B0 gl ol n c : Nat} {W5 W W' : World} {V l : List (Int × Int)} {v v' : Value} {x : Int × Int} (h : RwJ B0 W5 gl ol n c V v l W) (ho : W'.ownsRow B0 45 2 v' (l.length + 1) (cr encB l ++ encB x)) (hg : W.grownBy W' v.ownBlock) (hat : v'.ownBlock = v.ownBlock ∨ v'.ownBlock = some W.heap.size) : RwJ B0 W5 gl ol n c V v' (l ++ [x]) W' := by
  refine ⟨by rw [List.length_append, List.length_singleton, cr_snoc]; exact ho, ?_, vx_keptN h.old hg (fun e => h.ne e.symm), Below.grown h.bel hg h.sz (fun i e => (h.row.lt i e).1), Nat.le_trans h.sz hg.size, Nat.lt_of_lt_of_le h.lt hg.size⟩
  rcases hat with e | e
  · rw [e]; exact h.ne
  · rw [e]
    intro e2
    have := Option.some.inj e2
    have := h.lt
    omega
theorem RwJ.end {B0 gl ol n c : Nat} {W5 W : World} {V l : List (Int × Int)} {v : Value} (h : RwJ B0 W5 gl ol n c V v l W) (hl : l.length ≤ maxLen) : Vx W v l := Rx.own encB_len h.row hl
theorem evL_at (X : List (Int × Int)) (t : Int × Int) (L : List Is) (k : Nat) (hk : k ≤ L.length) : (evL X t (L.take k)).length = k := by
  rw [evL_len, List.length_take]
  omega
theorem outV_snoc {vals : List (Int × Int)} {out : List Int} {k : Nat} {y : Nat} {p : Int × Int} (hy : out[k]? = some (y : Int)) (hp : vals[y]? = some p) : outV vals (out.take (k + 1)) = outV vals (out.take k) ++ [p] := by
  unfold outV
  rw [List.take_add_one, hy, List.map_append]
  simp only [Option.toList_some, List.map_cons, List.map_nil, Int.toNat_natCast, List.getD_eq_getElem?_getD, hp, Option.getD_some]
set_option maxHeartbeats 64000000 in
theorem reval_ok (N t1 t2 : Int) (vl vo vx : Value) (L : List Is) (out : List Int) (X : List (Int × Int)) (w : World) (hl : Ix w vl L) (ho : Px w vo out) (hx : Vx w vx X) (hXN : (X.length : Int) = N) (htv : tvB N L out = true) (hvx : ∀ p ∈ X, VI p.1 p.2) (hvt : VI t1 t2) :
    Calls Try.prog 48 #[.agg #[.int .i64 N, vl, vo], vx, .agg #[.int .i64 t1, .int .i64 t2]] w fun e w' => ∃ u, e = .returned u ∧ Vx w' u (outV (evL X (t1, t2) L) out) ∧ Below w.heap.size w w' := by
  obtain ⟨i0, hi0, hz0, hz1, hz2⟩ := info_parts info_ivB
  obtain ⟨pl, cl, rfl⟩ := hl.cut
  obtain ⟨po, co, rfl⟩ := ho.cut
  obtain ⟨px, cx, rfl⟩ := hx.cut
  obtain ⟨hn1, hn6, h400, hon, hvl, hout⟩ := tv_cases htv
  have hE : Below w.heap.size w ((((w.alloc (.cells #[.int .i64 N, .slice pl L.length cl, .slice po out.length co] 25)).alloc (.cells #[.int .i64 t1, .int .i64 t2] 45)).alloc (.cells #[] 45)).alloc (.cells #[] 45)) := allocs_below [.cells #[.int .i64 N, .slice pl L.length cl, .slice po out.length co] 25, .cells #[.int .i64 t1, .int .i64 t2] 45, .cells #[] 45, .cells #[] 45] w
  have HCT := Lib.hid (show Blk ((((w.alloc (.cells #[.int .i64 N, .slice pl L.length cl, .slice po out.length co] 25)).alloc (.cells #[.int .i64 t1, .int .i64 t2] 45)).alloc (.cells #[] 45)).alloc (.cells #[] 45)) w.heap.size (.cells #[.int .i64 N, .slice pl L.length cl, .slice po out.length co] 25) from allocs_at [.cells #[.int .i64 N, .slice pl L.length cl, .slice po out.length co] 25, .cells #[.int .i64 t1, .int .i64 t2] 45, .cells #[] 45, .cells #[] 45] w 0 _ rfl)
  have HCI := Lib.hid (show Blk ((((w.alloc (.cells #[.int .i64 N, .slice pl L.length cl, .slice po out.length co] 25)).alloc (.cells #[.int .i64 t1, .int .i64 t2] 45)).alloc (.cells #[] 45)).alloc (.cells #[] 45)) (w.heap.size + 1) (.cells #[.int .i64 t1, .int .i64 t2] 45) from allocs_at [.cells #[.int .i64 N, .slice pl L.length cl, .slice po out.length co] 25, .cells #[.int .i64 t1, .int .i64 t2] 45, .cells #[] 45, .cells #[] 45] w 1 _ rfl)
  have HL := Lib.hid hl
  have HO := Lib.hid ho
  have HX := Lib.hid hx
  have HW := Lib.hid hE
  have hrow := own_emptyB ((w.alloc (.cells #[.int .i64 N, .slice pl L.length cl, .slice po out.length co] 25)).alloc (.cells #[.int .i64 t1, .int .i64 t2] 45))
  rw [alloc_sz, alloc_sz] at hrow
  have hz3 : Blk ((((w.alloc (.cells #[.int .i64 N, .slice pl L.length cl, .slice po out.length co] 25)).alloc (.cells #[.int .i64 t1, .int .i64 t2] 45)).alloc (.cells #[] 45)).alloc (.cells #[] 45)) (w.heap.size + 1 + 1 + 1) (.cells #[] 45) := allocs_at [.cells #[.int .i64 N, .slice pl L.length cl, .slice po out.length co] 25, .cells #[.int .i64 t1, .int .i64 t2] 45, .cells #[] 45, .cells #[] 45] w 3 _ rfl
  have hrow3 : ((((w.alloc (.cells #[.int .i64 N, .slice pl L.length cl, .slice po out.length co] 25)).alloc (.cells #[.int .i64 t1, .int .i64 t2] 45)).alloc (.cells #[] 45)).alloc (.cells #[] 45)).ownsRow (w.heap.size + 1 + 1) 45 2 (.slice (some ⟨w.heap.size + 1 + 1 + 1, 0, none⟩) 0 0) 0 [] := ⟨rfl, .inr ⟨_, 0, #[], rfl, Nat.le_succ _, hz3, Nat.le_refl _, Nat.zero_le _, rfl, rfl⟩⟩
  have HI0 := Lib.hid (show RwI (w.heap.size + 1 + 1) ((((w.alloc (.cells #[.int .i64 N, .slice pl L.length cl, .slice po out.length co] 25)).alloc (.cells #[.int .i64 t1, .int .i64 t2] 45)).alloc (.cells #[] 45)).alloc (.cells #[] 45)) (w.heap.size + 1 + 1 + 1) (.slice (some ⟨w.heap.size + 1 + 1, 0, none⟩) 0 0) [] ((((w.alloc (.cells #[.int .i64 N, .slice pl L.length cl, .slice po out.length co] 25)).alloc (.cells #[.int .i64 t1, .int .i64 t2] 45)).alloc (.cells #[] 45)).alloc (.cells #[] 45)) from ⟨hrow.alloc _, by simp [Value.ownBlock], hz3, Below.refl _ _, by rw [alloc_sz, alloc_sz, alloc_sz, alloc_sz]; omega, by omega⟩)
  have hsz : w.heap.size + 1 + 1 ≤ ((((w.alloc (.cells #[.int .i64 N, .slice pl L.length cl, .slice po out.length co] 25)).alloc (.cells #[.int .i64 t1, .int .i64 t2] 45)).alloc (.cells #[] 45)).alloc (.cells #[] 45)).heap.size := by rw [alloc_sz, alloc_sz, alloc_sz, alloc_sz]; omega
  have HVL := Lib.hid hvl
  have HOU := Lib.hid hout
  have HVX := Lib.hid hvx
  have HVT := Lib.hid hvt
  have hXl : 1 ≤ X.length := by omega
  have hol : 1 ≤ out.length := by omega
  have H400 := Lib.hid h400
  clear hl ho hx hE hrow hz3 hrow3 hvl hout hvx hvt htv hn1
  go_enter Try.func48, Try.ntmps48
  go_wp2_with (fail)
  generalize hWc : World.alloc (World.alloc (World.alloc (World.alloc w _) _) _) _ = W5 at *
  clear hWc
  have c1 := heapN_cellj HCT.out (k := 1) rfl
  go_loopw [7, 9, 10] (fun v i y wr => ∃ k : Nat, i = .int .i64 k ∧ k ≤ L.length ∧ Hid (RwI (w.heap.size + 1 + 1) W5 (w.heap.size + 1 + 1 + 1) v (evL X (t1, t2) (L.take k)) wr)) (fun v i y _ => L.length - (intOf i).toNat)
  case atStart => exact ⟨0, rfl, Nat.zero_le _, HI0⟩
  case round =>
    clear HI0 c1
    obtain ⟨k, rfl, hk, HI⟩ := hrel
    have hlk := evL_at X (t1, t2) L k hk
    obtain ⟨pv, cv, hv⟩ := own_slice HI.out.row
    rw [hlk] at hv
    subst hv
    have c1 := heapN_cellj ((HI.out.bel.block _ (by omega)).trans HCT.out) (k := 1) rfl
    by_cases hlt : k < L.length
    · have i2 : (k : Int) < L.length := by omega
      obtain ⟨⟨op, ia, ib, ilo, ihi⟩, hx⟩ : ∃ x, L[k]? = some x := ⟨_, List.getElem?_eq_getElem hlt⟩
      obtain ⟨bb, ob, hpe, hbb, rd⟩ := is_rd HL.out hx
      subst hpe
      have HT := Lib.hid (HW.out.trans (HI.out.bel.mono (by omega)))
      obtain ⟨r0, r1, r2, r3, r4⟩ := rd ⟨wr, HT.out⟩
      dsimp only at r0 r1 r2 r3 r4
      have hsn := evL_snoc (X := X) (t := (t1, t2)) hx
      have hvk := vin_cases (HVL.out k _ hx)
      dsimp only at hvk
      clear rd hbb
      rcases hvk with ⟨rfl, hvv⟩ | ⟨rfl, hi1, hi2⟩ | rfl | hdf
      · have hev : evI X (t1, t2) (evL X (t1, t2) (L.take k)) ⟨1, ia, ib, ilo, ihi⟩ = (ilo, ihi) := by unfold evI; rw [if_pos rfl]
        rw [hev] at hsn
        clear hev hx
        have HI6 := Lib.hid ((HI.out.grow ((Below.refl _ _).alloc (Nat.le_refl _) (.cells #[.int .i64 1, .int .i64 ia, .int .i64 ib, .int .i64 ilo, .int .i64 ihi] 62))).grow ((Below.refl _ _).alloc (Nat.le_refl _) (.cells #[.int .i64 ilo, .int .i64 ihi] 45)))
        have hnb := World.alloc_heap_new (wr.alloc (.cells #[.int .i64 1, .int .i64 ia, .int .i64 ib, .int .i64 ilo, .int .i64 ihi] 62)) (.cells #[.int .i64 ilo, .int .i64 ihi] 45)
        rw [alloc_sz] at hnb
        have HNB := Lib.hid (two_at (ilo, ihi) hnb)
        have hrw := HI6.out.row
        rw [hlk] at hrw
        have HRW := Lib.hid hrw
        have hs6 := HI6.out.sz
        have hs7 : w.heap.size + 1 + 1 ≤ ((wr.alloc (.cells #[.int .i64 1, .int .i64 ia, .int .i64 ib, .int .i64 ilo, .int .i64 ihi] 62)).alloc (.cells #[.int .i64 ilo, .int .i64 ihi] 45)).heap.size := by omega
        have HSN := Lib.hid hsn
        clear hnb hrw hsn hs6
        go_wp2_with (at_builtin; refine wpList_append_own_at _ rfl (.tmp 46) (.tmp 49) 26 rfl (w.heap.size + 1 + 1) 45 i0 (.agg #[.int .i64 0, .int .i64 0]) 2 16 Try.underlying26 hi0 hz0 hz1 hz2 rfl (by decide) (.slice pv k cv) k _ rfl HRW.out ⟨wr.heap.size + 1, 0, none⟩ 1 1 (encB (ilo, ihi)) rfl rfl HNB.out (one_b _) (by unfold maxLen; omega) (by omega) hs7 ?_)
        intro v' w8 hown' hgrow _ hat
        have HI8 := Lib.hid (show RwI (w.heap.size + 1 + 1) W5 (w.heap.size + 1 + 1 + 1) v' (evL X (t1, t2) (L.take (k + 1))) w8 from by rw [HSN.out]; exact HI6.out.push (by rw [hlk]; exact hown') hgrow (hat.imp_right fun h => by rw [h, alloc_sz, alloc_sz]))
        clear hown' hgrow hat HI6 HRW HNB hs7 HI r0 r1 r2 r3 r4 c1
        go_wp2_with (fail)
        go_roundw
        case rel => exact ⟨k + 1, by go_num, by omega, HI8⟩
        case measure => simp [intOf]; omega
      · obtain ⟨a, rfl⟩ : ∃ a : Nat, ia = a := ⟨ia.toNat, by omega⟩
        obtain ⟨⟨p, q⟩, hp⟩ : ∃ x, X[a]? = some x := ⟨_, List.getElem?_eq_getElem (by omega)⟩
        have i3 : (a : Int) < X.length := by omega
        obtain ⟨bx, ox, hpx, hbx, rdx⟩ := vx_rd HX.out hp
        subst hpx
        obtain ⟨p0, p1⟩ := rdx ⟨_, HT.out.alloc HT.out.size (.cells #[.int .i64 2, .int .i64 a, .int .i64 ib, .int .i64 ilo, .int .i64 ihi] 62)⟩
        have hev : evI X (t1, t2) (evL X (t1, t2) (L.take k)) ⟨2, a, ib, ilo, ihi⟩ = (p, q) := by unfold evI; rw [if_neg (show ¬ ((2 : Int) = 1) by decide), if_pos rfl]; simp [List.getD_eq_getElem?_getD, hp]
        rw [hev] at hsn
        clear hev hx rdx
        have HI6 := Lib.hid ((HI.out.grow ((Below.refl _ _).alloc (Nat.le_refl _) (.cells #[.int .i64 2, .int .i64 a, .int .i64 ib, .int .i64 ilo, .int .i64 ihi] 62))).grow ((Below.refl _ _).alloc (Nat.le_refl _) (.cells #[.int .i64 p, .int .i64 q] 45)))
        have hnb := World.alloc_heap_new (wr.alloc (.cells #[.int .i64 2, .int .i64 a, .int .i64 ib, .int .i64 ilo, .int .i64 ihi] 62)) (.cells #[.int .i64 p, .int .i64 q] 45)
        rw [alloc_sz] at hnb
        have HNB := Lib.hid (two_at (p, q) hnb)
        have hrw := HI6.out.row
        rw [hlk] at hrw
        have HRW := Lib.hid hrw
        have hs6 := HI6.out.sz
        have hs7 : w.heap.size + 1 + 1 ≤ ((wr.alloc (.cells #[.int .i64 2, .int .i64 a, .int .i64 ib, .int .i64 ilo, .int .i64 ihi] 62)).alloc (.cells #[.int .i64 p, .int .i64 q] 45)).heap.size := by omega
        have HSN := Lib.hid hsn
        clear hnb hrw hsn hs6
        go_wp2_with (at_builtin; refine wpList_append_own_at _ rfl (.tmp 53) (.tmp 59) 26 rfl (w.heap.size + 1 + 1) 45 i0 (.agg #[.int .i64 0, .int .i64 0]) 2 16 Try.underlying26 hi0 hz0 hz1 hz2 rfl (by decide) (.slice pv k cv) k _ rfl HRW.out ⟨wr.heap.size + 1, 0, none⟩ 1 1 (encB (p, q)) rfl rfl HNB.out (one_b _) (by unfold maxLen; omega) (by omega) hs7 ?_)
        intro v' w8 hown' hgrow _ hat
        have HI8 := Lib.hid (show RwI (w.heap.size + 1 + 1) W5 (w.heap.size + 1 + 1 + 1) v' (evL X (t1, t2) (L.take (k + 1))) w8 from by rw [HSN.out]; exact HI6.out.push (by rw [hlk]; exact hown') hgrow (hat.imp_right fun h => by rw [h, alloc_sz, alloc_sz]))
        clear hown' hgrow hat HI6 HRW HNB hs7 HI r0 r1 r2 r3 r4 c1
        go_wp2_with (fail)
        go_roundw
        case rel => exact ⟨k + 1, by go_num, by omega, HI8⟩
        case measure => simp [intOf]; omega
      · have hev : evI X (t1, t2) (evL X (t1, t2) (L.take k)) ⟨3, ia, ib, ilo, ihi⟩ = (t1, t2) := by unfold evI; rw [if_neg (show ¬ ((3 : Int) = 1) by decide), if_neg (show ¬ ((3 : Int) = 2) by decide), if_pos rfl]
        rw [hev] at hsn
        have hci := Blk.grow ((HI.out.bel.block _ (by omega)).trans HCI.out) ((Below.refl _ _).alloc (Nat.le_refl _) (.cells #[.int .i64 3, .int .i64 ia, .int .i64 ib, .int .i64 ilo, .int .i64 ihi] 62))
        have p0 := heapN_cellj hci (k := 0) rfl
        have p1 := heapN_cellj hci (k := 1) rfl
        clear hev hx hci
        have HI6 := Lib.hid ((HI.out.grow ((Below.refl _ _).alloc (Nat.le_refl _) (.cells #[.int .i64 3, .int .i64 ia, .int .i64 ib, .int .i64 ilo, .int .i64 ihi] 62))).grow ((Below.refl _ _).alloc (Nat.le_refl _) (.cells #[.int .i64 t1, .int .i64 t2] 45)))
        have hnb := World.alloc_heap_new (wr.alloc (.cells #[.int .i64 3, .int .i64 ia, .int .i64 ib, .int .i64 ilo, .int .i64 ihi] 62)) (.cells #[.int .i64 t1, .int .i64 t2] 45)
        rw [alloc_sz] at hnb
        have HNB := Lib.hid (two_at (t1, t2) hnb)
        have hrw := HI6.out.row
        rw [hlk] at hrw
        have HRW := Lib.hid hrw
        have hs6 := HI6.out.sz
        have hs7 : w.heap.size + 1 + 1 ≤ ((wr.alloc (.cells #[.int .i64 3, .int .i64 ia, .int .i64 ib, .int .i64 ilo, .int .i64 ihi] 62)).alloc (.cells #[.int .i64 t1, .int .i64 t2] 45)).heap.size := by omega
        have HSN := Lib.hid hsn
        clear hnb hrw hsn hs6
        go_wp2_with (at_builtin; refine wpList_append_own_at _ rfl (.tmp 63) (.tmp 65) 26 rfl (w.heap.size + 1 + 1) 45 i0 (.agg #[.int .i64 0, .int .i64 0]) 2 16 Try.underlying26 hi0 hz0 hz1 hz2 rfl (by decide) (.slice pv k cv) k _ rfl HRW.out ⟨wr.heap.size + 1, 0, none⟩ 1 1 (encB (t1, t2)) rfl rfl HNB.out (one_b _) (by unfold maxLen; omega) (by omega) hs7 ?_)
        intro v' w8 hown' hgrow _ hat
        have HI8 := Lib.hid (show RwI (w.heap.size + 1 + 1) W5 (w.heap.size + 1 + 1 + 1) v' (evL X (t1, t2) (L.take (k + 1))) w8 from by rw [HSN.out]; exact HI6.out.push (by rw [hlk]; exact hown') hgrow (hat.imp_right fun h => by rw [h, alloc_sz, alloc_sz]))
        clear hown' hgrow hat HI6 HRW HNB hs7 HI r0 r1 r2 r3 r4 c1
        go_wp2_with (fail)
        go_roundw
        case rel => exact ⟨k + 1, by go_num, by omega, HI8⟩
        case measure => simp [intOf]; omega
      · obtain ⟨hop, ha1, ha2, hb1, hb2⟩ : (op = 4 ∨ op = 5 ∨ op = 6 ∨ op = 7 ∨ op = 8 ∨ op = 9 ∨ op = 10) ∧ 0 ≤ ia ∧ ia < k ∧ 0 ≤ ib ∧ ib < k := by
          rcases hdf with ⟨h, e, h1, h2⟩ | ⟨h, h1, h2, h3, h4⟩
          · exact ⟨by omega, h1, h2, by omega, by omega⟩
          · exact ⟨by omega, h1, h2, h3, h4⟩
        obtain ⟨a, rfl⟩ : ∃ a : Nat, ia = a := ⟨ia.toNat, by omega⟩
        obtain ⟨b, rfl⟩ : ∃ a : Nat, ib = a := ⟨ib.toNat, by omega⟩
        have i3 : (a : Int) < k := ha2
        have i4 : (b : Int) < k := hb2
        obtain ⟨⟨p1, p2⟩, hp⟩ : ∃ x, (evL X (t1, t2) (L.take k))[a]? = some x := ⟨_, List.getElem?_eq_getElem (by omega)⟩
        obtain ⟨⟨q1, q2⟩, hq⟩ : ∃ x, (evL X (t1, t2) (L.take k))[b]? = some x := ⟨_, List.getElem?_eq_getElem (by omega)⟩
        have hvl2 : ∀ p ∈ (evL X (t1, t2) (L.take k)), VI p.1 p.2 := evL_vi HVX.out HVT.out (fun j x hj => by
          rw [List.getElem?_take] at hj
          split at hj
          · exact HVL.out j x hj
          · cases hj)
        have hvp := hvl2 _ (List.mem_of_getElem? hp)
        have hvq := hvl2 _ (List.mem_of_getElem? hq)
        have KC := Lib.hid (fun w => rop_ok op p1 p2 q1 q2 w hop hvp hvq)
        have hev := evI_two (X := X) (t := (t1, t2)) (lo := ilo) (hi := ihi) (show op ≠ 1 by omega) (show op ≠ 2 by omega) (show op ≠ 3 by omega) hp hq
        obtain ⟨⟨s1, s2⟩, es⟩ : ∃ s, opI op (p1, p2) (q1, q2) = s := ⟨_, rfl⟩
        rw [es] at KC hev
        dsimp only at KC
        rw [hev] at hsn
        have HSN := Lib.hid hsn
        have n1 : (op == 1) = false := by simp; omega
        have n2 : (op == 2) = false := by simp; omega
        have n3 : (op == 3) = false := by simp; omega
        have hrow := HI.out.row
        rw [hlk] at hrow
        obtain ⟨gl, hgl⟩ := own_addrR hrow (by omega)
        subst hgl
        have HY := Lib.hid (show Blk (wr.alloc (.cells #[.int .i64 op, .int .i64 a, .int .i64 b, .int .i64 ilo, .int .i64 ihi] 62)) wr.heap.size (.cells #[.int .i64 op, .int .i64 a, .int .i64 b, .int .i64 ilo, .int .i64 ihi] 62) from World.alloc_heap_new wr _)
        have HI6 := Lib.hid (HI.out.grow ((Below.refl _ _).alloc (Nat.le_refl _) (.cells #[.int .i64 op, .int .i64 a, .int .i64 b, .int .i64 ilo, .int .i64 ihi] 62)))
        have F1 := fun g : Grown (wr.alloc (.cells #[.int .i64 op, .int .i64 a, .int .i64 b, .int .i64 ilo, .int .i64 ihi] 62)) => (HI6.out.cell hp hlk g).1
        have F2 := fun g : Grown (wr.alloc (.cells #[.int .i64 op, .int .i64 a, .int .i64 b, .int .i64 ilo, .int .i64 ihi] 62)) => (HI6.out.cell hp hlk g).2
        have G1 := fun g : Grown (wr.alloc (.cells #[.int .i64 op, .int .i64 a, .int .i64 b, .int .i64 ilo, .int .i64 ihi] 62)) => (HI6.out.cell hq hlk g).1
        have G2 := fun g : Grown (wr.alloc (.cells #[.int .i64 op, .int .i64 a, .int .i64 b, .int .i64 ilo, .int .i64 ihi] 62)) => (HI6.out.cell hq hlk g).2
        dsimp only at F1 F2 G1 G2
        clear hx hsn hev es hop hvl2 hvp hvq hp hq hrow hdf
        go_wp2_with (fail)
        generalize hWd : World.alloc wr _ = W6 at *
        clear hWd
        have y0 := fun g : Grown W6 => heapN_cellj (HY.out.grow g.h) (k := 0) rfl
        have y1 := fun g : Grown W6 => heapN_cellj (HY.out.grow g.h) (k := 1) rfl
        have y2 := fun g : Grown W6 => heapN_cellj (HY.out.grow g.h) (k := 2) rfl
        clear r0 r1 r2 r3 r4 c1 HI n1 n2 n3
        refine region_pred_n 15 (lk [(28, fun z_ _ => z_ = .slice (some ⟨gl, 0, none⟩) k cv), (29, fun z_ _ => z_ = .pointer (some ⟨wr.heap.size, 0, none⟩)), (30, fun z_ _ => z_ = .int .i64 op), (31, fun z_ _ => z_ = .slice (some ⟨gl, 0, none⟩) k cv), (32, fun z_ _ => z_ = .pointer (some ⟨wr.heap.size, 1, none⟩)), (33, fun z_ _ => z_ = .int .i64 (a : Int)), (34, fun z_ _ => z_ = .pointer (some ⟨gl, a * 2, none⟩)), (35, fun z_ _ => z_ = .agg #[.int .i64 p1, .int .i64 p2]), (36, fun z_ _ => z_ = .slice (some ⟨gl, 0, none⟩) k cv), (37, fun z_ _ => z_ = .pointer (some ⟨wr.heap.size, 2, none⟩)), (38, fun z_ _ => z_ = .int .i64 (b : Int)), (39, fun z_ _ => z_ = .pointer (some ⟨gl, b * 2, none⟩)), (40, fun z_ _ => z_ = .agg #[.int .i64 q1, .int .i64 q2]), (41, fun z_ _ => z_ = .agg #[.int .i64 s1, .int .i64 s2]), (42, fun z_ w' => ∃ X_, z_ = .slice (some ⟨X_, 0, none⟩) 1 1 ∧ W6.heap.size ≤ X_ ∧ w'.heap[X_]? = some (.cells #[.int .i64 s1, .int .i64 s2] 45 (0, 0)))]) (by kernel_rfl) (by kernel_rfl) (lk_steady _ ⟨steady_eq _, steady_eq _, steady_eq _, steady_eq _, steady_eq _, steady_eq _, steady_eq _, steady_eq _, steady_eq _, steady_eq _, steady_eq _, steady_eq _, steady_eq _, steady_eq _, fun u w1 w2 hb ⟨X, e, h1, h2⟩ => ⟨X, e, h1, (hb.block X (Array.getElem?_eq_some_iff.1 h2).1).trans h2⟩, trivial⟩) ?_ ?_
        · refine ⟨?_, ?_, ?_, ?_, ?_, ?_, ?_, ?_, ?_, ?_, ?_, ?_, ?_, ?_, ?_, trivial⟩
          · refine ob_plain [7] rfl rfl fun aa g h => ?_
            have yy0 := seen_out (v := .slice (some ⟨gl, 0, none⟩) k cv) rfl rfl h.1
            have ee0 := getD_of yy0
            exact tupon_value (v := .slice (some ⟨gl, 0, none⟩) k cv) (by simp [go_sem, ee0, yy0]) (Below.refl _ _) rfl
          · refine ob_plain [10] rfl rfl fun aa g h => ?_
            have yy0 := seen_out (v := .pointer (some ⟨wr.heap.size, 0, none⟩)) rfl rfl h.1
            have ee0 := getD_of yy0
            exact tupon_value (v := .pointer (some ⟨wr.heap.size, 0, none⟩)) (by simp [go_sem, ee0, yy0]) (Below.refl _ _) rfl
          · refine ob_plain [29] rfl rfl fun aa g h => ?_
            obtain ⟨_, yy0, rfl⟩ := seen_in rfl h.1
            have ee0 := getD_of yy0
            exact tupon_value (v := .int .i64 op) (by simp [go_sem, ee0, yy0, y0 g]) (Below.refl _ _) rfl
          · refine ob_plain [7] rfl rfl fun aa g h => ?_
            have yy0 := seen_out (v := .slice (some ⟨gl, 0, none⟩) k cv) rfl rfl h.1
            have ee0 := getD_of yy0
            exact tupon_value (v := .slice (some ⟨gl, 0, none⟩) k cv) (by simp [go_sem, ee0, yy0]) (Below.refl _ _) rfl
          · refine ob_plain [10] rfl rfl fun aa g h => ?_
            have yy0 := seen_out (v := .pointer (some ⟨wr.heap.size, 0, none⟩)) rfl rfl h.1
            have ee0 := getD_of yy0
            exact tupon_value (v := .pointer (some ⟨wr.heap.size, 1, none⟩)) (by simp [go_sem, ee0, yy0]) (Below.refl _ _) rfl
          · refine ob_plain [32] rfl rfl fun aa g h => ?_
            obtain ⟨_, yy0, rfl⟩ := seen_in rfl h.1
            have ee0 := getD_of yy0
            exact tupon_value (v := .int .i64 (a : Int)) (by simp [go_sem, ee0, yy0, y1 g]) (Below.refl _ _) rfl
          · refine ob_plain [31, 33] rfl rfl fun aa g h => ?_
            obtain ⟨_, yy0, rfl⟩ := seen_in rfl h.1
            have ee0 := getD_of yy0
            obtain ⟨_, yy1, rfl⟩ := seen_in rfl h.2.1
            have ee1 := getD_of yy1
            exact tupon_value (v := .pointer (some ⟨gl, a * 2, none⟩)) (by simp [go_sem, ee0, yy0, ee1, yy1, i3]) (Below.refl _ _) rfl
          · refine ob_plain [34] rfl rfl fun aa g h => ?_
            obtain ⟨_, yy0, rfl⟩ := seen_in rfl h.1
            have ee0 := getD_of yy0
            exact tupon_value (v := .agg #[.int .i64 p1, .int .i64 p2]) (by simp [go_sem, ee0, yy0, F1 g, F2 g]) (Below.refl _ _) rfl
          · refine ob_plain [7] rfl rfl fun aa g h => ?_
            have yy0 := seen_out (v := .slice (some ⟨gl, 0, none⟩) k cv) rfl rfl h.1
            have ee0 := getD_of yy0
            exact tupon_value (v := .slice (some ⟨gl, 0, none⟩) k cv) (by simp [go_sem, ee0, yy0]) (Below.refl _ _) rfl
          · refine ob_plain [10] rfl rfl fun aa g h => ?_
            have yy0 := seen_out (v := .pointer (some ⟨wr.heap.size, 0, none⟩)) rfl rfl h.1
            have ee0 := getD_of yy0
            exact tupon_value (v := .pointer (some ⟨wr.heap.size, 2, none⟩)) (by simp [go_sem, ee0, yy0]) (Below.refl _ _) rfl
          · refine ob_plain [37] rfl rfl fun aa g h => ?_
            obtain ⟨_, yy0, rfl⟩ := seen_in rfl h.1
            have ee0 := getD_of yy0
            exact tupon_value (v := .int .i64 (b : Int)) (by simp [go_sem, ee0, yy0, y2 g]) (Below.refl _ _) rfl
          · refine ob_plain [36, 38] rfl rfl fun aa g h => ?_
            obtain ⟨_, yy0, rfl⟩ := seen_in rfl h.1
            have ee0 := getD_of yy0
            obtain ⟨_, yy1, rfl⟩ := seen_in rfl h.2.1
            have ee1 := getD_of yy1
            exact tupon_value (v := .pointer (some ⟨gl, b * 2, none⟩)) (by simp [go_sem, ee0, yy0, ee1, yy1, i4]) (Below.refl _ _) rfl
          · refine ob_plain [39] rfl rfl fun aa g h => ?_
            obtain ⟨_, yy0, rfl⟩ := seen_in rfl h.1
            have ee0 := getD_of yy0
            exact tupon_value (v := .agg #[.int .i64 q1, .int .i64 q2]) (by simp [go_sem, ee0, yy0, G1 g, G2 g]) (Below.refl _ _) rfl
          · refine ob_plain [30, 35, 40] rfl rfl fun aa g h => ?_
            obtain ⟨_, yy0, rfl⟩ := seen_in rfl h.1
            have ee0 := getD_of yy0
            obtain ⟨_, yy1, rfl⟩ := seen_in rfl h.2.1
            have ee1 := getD_of yy1
            obtain ⟨_, yy2, rfl⟩ := seen_in rfl h.2.2.1
            have ee2 := getD_of yy2
            refine tupon_enter (f := 73) (args := #[.int .i64 op, .agg #[.int .i64 p1, .int .i64 p2], .agg #[.int .i64 q1, .int .i64 q2]]) (by simp [go_sem, ee0, yy0, ee1, yy1, ee2, yy2]) rfl ?_
            exact (KC.out g.w).mono fun e w' ⟨he, hB⟩ => ⟨_, he, hB, rfl⟩
          · refine ob_plain [41] rfl rfl fun aa g h => ?_
            obtain ⟨_, yy0, rfl⟩ := seen_in rfl h.1
            have ee0 := getD_of yy0
            exact tupon_value (v := .slice (some ⟨g.w.heap.size, 0, none⟩) 1 1) (w1 := g.w.alloc (.cells #[.int .i64 s1, .int .i64 s2] 45)) (by simp [go_sem, ee0, yy0]) ((Below.refl _ _).alloc (Nat.le_refl _) _) ⟨_, rfl, g.h.size, World.alloc_heap_new _ _⟩
        rintro w7 hB7 _ rfl _ rfl _ rfl _ rfl _ rfl _ rfl _ rfl _ rfl _ rfl _ rfl _ rfl _ rfl _ rfl _ rfl _ ⟨X42, rfl, hX42, hI42⟩
        simp only [Act.put, List.setIfInBounds_toArray, List.set_cons_succ, List.set_cons_zero, finP, List.drop_succ_cons, List.drop_zero, List.take_zero, List.filterMap_nil]
        have HI7 := Lib.hid (HI6.out.grow hB7)
        have HNB := Lib.hid (two_at (s1, s2) hI42)
        have hrw := HI7.out.row
        rw [hlk] at hrw
        have HRW := Lib.hid hrw
        have hs7 : w.heap.size + 1 + 1 ≤ w7.heap.size := by have := HI7.out.sz; omega
        clear hrw hB7 hI42 hX42 F1 F2 G1 G2 y0 y1 y2 HY HI6 KC
        go_wp2_with (at_builtin; refine wpList_append_own_at _ rfl (.tmp 28) (.tmp 42) 26 rfl (w.heap.size + 1 + 1) 45 i0 (.agg #[.int .i64 0, .int .i64 0]) 2 16 Try.underlying26 hi0 hz0 hz1 hz2 rfl (by decide) (.slice (some ⟨gl, 0, none⟩) k cv) k _ rfl HRW.out ⟨X42, 0, none⟩ 1 1 (encB (s1, s2)) rfl rfl HNB.out (one_b _) (by unfold maxLen; omega) (by omega) hs7 ?_)
        intro v' w8 hown' hgrow _ hat
        have HI8 := Lib.hid (show RwI (w.heap.size + 1 + 1) W5 (w.heap.size + 1 + 1 + 1) v' (evL X (t1, t2) (L.take (k + 1))) w8 from by rw [HSN.out]; exact HI7.out.push (by rw [hlk]; exact hown') hgrow hat)
        clear hown' hgrow hat HI7 HRW HNB hs7
        go_wp2_with (fail)
        go_roundw
        case rel => exact ⟨k + 1, by go_num, by omega, HI8⟩
        case measure => simp [intOf]; omega
    · obtain rfl : k = L.length := by omega
      have i2 : ¬ (L.length : Int) < L.length := by omega
      obtain ⟨y0, hy0⟩ : ∃ y, out[0]? = some y := ⟨_, List.getElem?_eq_getElem (by omega)⟩
      have hy1 := HOU.out y0 (List.mem_of_getElem? hy0)
      have hrow := HI.out.row
      rw [hlk] at hrow
      obtain ⟨gl, hgl⟩ := own_addrR hrow (by omega)
      subst hgl
      have hne := HI.out.ne
      have hold : Vx wr (.slice (some ⟨gl, 0, none⟩) L.length cv) (evL X (t1, t2) (L.take L.length)) := by
        have h := Rx.own encB_len HI.out.row (by rw [hlk]; unfold maxLen; omega)
        exact h
      rw [List.take_length] at hold hlk
      obtain ⟨V, eV⟩ : ∃ V, evL X (t1, t2) L = V := ⟨_, rfl⟩
      rw [eV] at hold hlk
      have HEV := Lib.hid eV
      have hblk : wr.heap[w.heap.size + 1 + 1 + 1]? = some (.cells #[] 45 (0, 0)) := HI.out.blk
      have hrow3 : wr.ownsRow (w.heap.size + 1 + 1) 45 2 (.slice (some ⟨w.heap.size + 1 + 1 + 1, 0, none⟩) 0 0) 0 [] := ⟨rfl, .inr ⟨_, 0, #[], rfl, Nat.le_succ _, hblk, Nat.le_refl _, Nat.zero_le _, rfl, rfl⟩⟩
      have hsz := HI.out.sz
      have HJ0 := Lib.hid (show RwJ (w.heap.size + 1 + 1) W5 gl 0 L.length cv V (.slice (some ⟨w.heap.size + 1 + 1 + 1, 0, none⟩) 0 0) (outV V (out.take 0)) wr from ⟨hrow3, fun e => hne (by simp only [Value.ownBlock, Option.some.injEq] at e ⊢; exact e.symm), hold, HI.out.bel, by omega, (hrow.lt gl rfl).2⟩)
      have hci := (HI.out.bel.block _ (by omega)).trans HCT.out
      have c2 := heapN_cellj hci (k := 2) rfl
      have c1' := c1
      clear hy0 hy1 hrow hne hold hblk hrow3 hsz hci HI eV
      go_wp2_with (fail)
      clear c1 c1'
      go_loopw [8, 11] (fun v i wr => ∃ k : Nat, i = .int .i64 k ∧ k ≤ out.length ∧ Hid (RwJ (w.heap.size + 1 + 1) W5 gl 0 L.length cv V v (outV V (out.take k)) wr)) (fun v i _ => out.length - (intOf i).toNat)
      case atStart => exact ⟨0, rfl, Nat.zero_le _, HJ0⟩
      case round =>
        clear HJ0 c2
        obtain ⟨k, rfl, hk, HI⟩ := hrel
        have hok : (outV V (out.take k)).length = k := by unfold outV; rw [List.length_map, List.length_take]; omega
        obtain ⟨pv, cv2, hv⟩ := own_slice HI.out.row
        rw [hok] at hv
        subst hv
        have HT := Lib.hid (HW.out.trans (HI.out.bel.mono (by omega)))
        have hci := (HI.out.bel.block _ (by omega)).trans HCT.out
        have c2 := heapN_cellj hci (k := 2) rfl
        by_cases hlt : k < out.length
        · have i3 : (k : Int) < out.length := by omega
          obtain ⟨y, hy⟩ : ∃ y, out[k]? = some y := ⟨_, List.getElem?_eq_getElem hlt⟩
          obtain ⟨hy1, hy2⟩ := HOU.out y (List.mem_of_getElem? hy)
          obtain ⟨m, rfl⟩ : ∃ m : Nat, y = m := ⟨y.toNat, by omega⟩
          obtain ⟨⟨p, q⟩, hp⟩ : ∃ x, V[m]? = some x := ⟨_, List.getElem?_eq_getElem (by omega)⟩
          obtain ⟨bo, oo, hpo, hbo, rdo⟩ := px_rd HO.out hy
          subst hpo
          have r0 := rdo ⟨wr, HT.out⟩
          obtain ⟨bv, ov, hpv, hbv, rdv⟩ := vx_rd HI.out.old hp
          simp only [Option.some.injEq, Addr.mk.injEq, and_true] at hpv
          obtain ⟨rfl, rfl⟩ := hpv
          obtain ⟨r1, r2⟩ := rdv ⟨wr, Below.refl _ _⟩
          simp only [Nat.zero_add] at r1 r2
          have hsn := outV_snoc hy hp
          have HSN := Lib.hid hsn
          have HI6 := Lib.hid (HI.out.grow ((Below.refl _ _).alloc (Nat.le_refl _) (.cells #[.int .i64 p, .int .i64 q] 45)))
          have HNB := Lib.hid (two_at (p, q) (World.alloc_heap_new wr (.cells #[.int .i64 p, .int .i64 q] 45)))
          have hrw := HI6.out.row
          rw [hok] at hrw
          have HRW := Lib.hid hrw
          have hs7 := HI6.out.sz
          clear hci hy hp hy1 rdo rdv hsn hrw hbv hbo
          go_wp2_with (at_builtin; refine wpList_append_own_at _ rfl (.tmp 74) (.tmp 83) 26 rfl (w.heap.size + 1 + 1) 45 i0 (.agg #[.int .i64 0, .int .i64 0]) 2 16 Try.underlying26 hi0 hz0 hz1 hz2 rfl (by decide) (.slice pv k cv2) k _ rfl HRW.out ⟨wr.heap.size, 0, none⟩ 1 1 (encB (p, q)) rfl rfl HNB.out (one_b _) (by unfold maxLen; omega) (by omega) hs7 ?_)
          intro v' w8 hown' hgrow _ hat
          have HI8 := Lib.hid (show RwJ (w.heap.size + 1 + 1) W5 gl 0 L.length cv V v' (outV V (out.take (k + 1))) w8 from by rw [HSN.out]; exact HI6.out.push (by rw [hok]; exact hown') hgrow (hat.imp_right fun h => by rw [h, alloc_sz]))
          clear hown' hgrow hat HI6 HRW HNB hs7 HI r0 r1 r2 c2
          go_wp2_with (fail)
          go_roundw
          case rel => exact ⟨k + 1, by go_num, by omega, HI8⟩
          case measure => simp [intOf]; omega
        · obtain rfl : k = out.length := by omega
          have i3 : ¬ (out.length : Int) < out.length := by omega
          clear hci
          go_wp2_with (fail)
          go_ret
          refine ⟨_, rfl, ?_, HT.out⟩
          have h := HI.out.end (by rw [hok]; unfold maxLen; omega)
          rw [List.take_length, ← HEV.out] at h
          exact h
end Go.Proofs.Ytecmgiihacigaaa

namespace Go.Proofs.Ytecmgiihacigaaa
open Go.ChangeShapes Go.WideShapes Go.ChangeAt Go.RowKit Go.Maps
set_option linter.unusedVariables false
set_option linter.unusedSimpArgs false
set_option maxRecDepth 100000
attribute [local irreducible] Calls
theorem r2ent_at (p : Int × Int) (r : Bool) (w : World) (h : entB p = r) : Calls Try.prog 55 #[.agg #[.int .i64 p.1, .int .i64 p.2]] w fun e w' => e = .returned (.bool r) ∧ Below w.heap.size w w' := by
  obtain ⟨a, b⟩ := p
  cases r with
  | true =>
    obtain ⟨h1, h2⟩ := (entB_iff _).1 h
    dsimp only at h1 h2
    subst h1 h2
    exact r2ent_yes w
  | false =>
    refine r2ent_no a b w fun h2 => ?_
    rw [(entB_iff (a, b)).2 h2] at h
    cases h
set_option maxHeartbeats 8000000 in
theorem rbnd_ok (va : Value) (l : List (Int × Int)) (r : Bool) (w : World) (ha : Vx w va l) (h6 : l.length ≤ 6) (hr : bndB l = r) :
    Calls Try.prog 40 #[va] w fun e w' => e = .returned (.bool r) ∧ Below w.heap.size w w' := by
  obtain ⟨pa, ca, rfl⟩ := ha.cut
  have HA := Lib.hid ha
  have HRR := Lib.hid hr
  clear ha hr
  go_enter Try.func40, Try.ntmps40
  go_wp2_with (fail)
  go_loopw [3] (fun i wr => ∃ k : Nat, i = .int .i64 k ∧ k ≤ l.length ∧ Hid ((l.take k).any entB = false) ∧ Hid (Below w.heap.size w wr)) (fun i _ => l.length - (intOf i).toNat)
  case atStart => exact ⟨0, rfl, Nat.zero_le _, Lib.hid rfl, Lib.hid (Below.refl _ _)⟩
  case round =>
    obtain ⟨k, rfl, hk, HZ, HW⟩ := hrel
    by_cases hlt : k < l.length
    · have i2 : (k : Int) < l.length := by omega
      obtain ⟨⟨a, b⟩, hx⟩ : ∃ x, l[k]? = some x := ⟨_, List.getElem?_eq_getElem hlt⟩
      obtain ⟨q, hq⟩ : ∃ q, entB (a, b) = q := ⟨_, rfl⟩
      have K1 := Lib.hid (fun w => r2ent_at (a, b) q w hq)
      obtain ⟨ba, oa, hpa, hba, rda⟩ := vx_rd HA.out hx
      subst hpa
      obtain ⟨f0, f1⟩ := rda ⟨wr, HW.out⟩
      have HXX := Lib.hid hx
      have HQ := Lib.hid hq
      clear rda hx hq hba
      go_wp2_with (fail)
      refine (K1.out _).mono ?_
      rintro e w1 ⟨rfl, hB⟩
      have HB1 := Lib.hid (below_then HW.out hB)
      clear hB f0 f1 K1
      cases q with
      | false =>
        have hz : (l.take (k + 1)).any entB = false := by rw [List.take_add_one, HXX.out, List.any_append, HZ.out]; simp [HQ.out]
        have HZ1 := Lib.hid hz
        clear hz
        go_wp2_with (fail)
        go_roundw
        case rel => exact ⟨k + 1, by go_num, by omega, HZ1, HB1⟩
        case measure => simp [intOf]; omega
      | true =>
        have hz : bndB l = false := by
          unfold bndB
          rw [Bool.not_eq_false', List.any_eq_true]
          exact ⟨_, List.mem_of_getElem? HXX.out, HQ.out⟩
        have HZ1 := Lib.hid hz
        clear hz
        go_wp2_with (fail)
        go_ret
        exact ⟨show Ending.returned (.bool false) = .returned (.bool r) from by rw [← HRR.out]; exact ret_bool HZ1.out.symm, HB1.out⟩
    · obtain rfl : k = l.length := by omega
      have i2 : ¬ (l.length : Int) < l.length := by omega
      have hz : bndB l = true := by
        have h := HZ.out
        rw [List.take_length] at h
        unfold bndB
        rw [h]
        rfl
      have HZ1 := Lib.hid hz
      clear hz
      go_wp2_with (fail)
      go_ret
      exact ⟨show Ending.returned (.bool true) = .returned (.bool r) from by rw [← HRR.out]; exact ret_bool HZ1.out.symm, HW.out⟩
theorem hulL_snoc {l m : List (Int × Int)} {k : Nat} {x y : Int × Int} (hx : l[k]? = some x) (hy : m[k]? = some y) : (hulL l m).take (k + 1) = (hulL l m).take k ++ [hullI (x, y)] := by
  have e : (l.zip m)[k]? = some (x, y) := List.getElem?_zip_eq_some.2 ⟨hx, hy⟩
  unfold hulL
  rw [List.take_add_one, List.getElem?_map, e]
  rfl
theorem hulL_len {l m : List (Int × Int)} (h : m.length = l.length) : (hulL l m).length = l.length := by
  unfold hulL
  rw [List.length_map, List.length_zip]
  omega
theorem infL_snoc {l : List (Int × Int)} {k : Nat} {x : Int × Int} (hx : l[k]? = some x) : (infL l).take (k + 1) = (infL l).take k ++ [infP x] := by
  unfold infL
  rw [List.take_add_one, List.getElem?_map, hx]
  rfl
set_option maxHeartbeats 8000000 in
theorem rhull_ok (va vb : Value) (l m P : List (Int × Int)) (w : World) (ha : Vx w va l) (hb : Vx w vb m) (hlen : m.length = l.length) (h6 : l.length ≤ 6) (hP : hulL l m = P) :
    Calls Try.prog 39 #[va, vb] w fun e w' => ∃ u, e = .returned u ∧ Vx w' u P ∧ Below w.heap.size w w' := by
  subst hP
  obtain ⟨i0, hi0, hz0, hz1, hz2⟩ := info_parts info_ivB
  obtain ⟨pa, ca, rfl⟩ := ha.cut
  obtain ⟨pb, cb, rfl⟩ := hb.cut
  rw [hlen] at hb ⊢
  have HA := Lib.hid ha
  have HB := Lib.hid hb
  have HL := Lib.hid hlen
  have HR0 := Lib.hid (own_emptyB w)
  have HW := Lib.hid (show Below w.heap.size w (w.alloc (.cells #[] 45)) from (Below.refl _ _).alloc (Nat.le_refl _) _)
  clear ha hb hlen
  go_enter Try.func39, Try.ntmps39
  go_wp2_with (fail)
  go_loopw [5, 6] (fun v i wr => ∃ k : Nat, i = .int .i64 k ∧ k ≤ l.length ∧ Hid (wr.ownsRow w.heap.size 45 2 v k (cr encB ((hulL l m).take k))) ∧ Hid (Below w.heap.size w wr)) (fun v i _ => l.length - (intOf i).toNat)
  case atStart => exact ⟨0, rfl, Nat.zero_le _, HR0, HW⟩
  case round =>
    clear HR0 HW
    obtain ⟨k, rfl, hk, HR, HT⟩ := hrel
    obtain ⟨pv, cv, rfl⟩ := own_slice HR.out
    by_cases hlt : k < l.length
    · have i2 : (k : Int) < l.length := by omega
      obtain ⟨⟨a, b⟩, hx⟩ : ∃ x, l[k]? = some x := ⟨_, List.getElem?_eq_getElem hlt⟩
      obtain ⟨⟨c, d⟩, hy⟩ : ∃ x, m[k]? = some x := ⟨_, List.getElem?_eq_getElem (by rw [HL.out]; exact hlt)⟩
      have hsn := hulL_snoc hx hy
      have hh : hullI ((a, b), (c, d)) = (min a c, max b d) := rfl
      rw [hh] at hsn
      have KC := Lib.hid (fun w => r2hull a b c d w)
      obtain ⟨s1, es1⟩ : ∃ s, min a c = s := ⟨_, rfl⟩
      obtain ⟨s2, es2⟩ : ∃ s, max b d = s := ⟨_, rfl⟩
      rw [es1, es2] at hsn KC
      have HSN := Lib.hid hsn
      obtain ⟨ba, oa, hpa, hba, rda⟩ := vx_rd HA.out hx
      obtain ⟨bb, ob, hpb, hbb, rdb⟩ := vx_rd HB.out hy
      subst hpa hpb
      have f0 := fun g : Grown wr => (rda ⟨g.w, HT.out.trans (g.h.mono HT.out.size)⟩).1
      have f1 := fun g : Grown wr => (rda ⟨g.w, HT.out.trans (g.h.mono HT.out.size)⟩).2
      have g0 := fun g : Grown wr => (rdb ⟨g.w, HT.out.trans (g.h.mono HT.out.size)⟩).1
      have g1 := fun g : Grown wr => (rdb ⟨g.w, HT.out.trans (g.h.mono HT.out.size)⟩).2
      clear rda rdb hx hy hba hbb hsn hh es1 es2
      go_wp2_with (fail)
      refine region_pred_n 11 (lk [(14, fun z_ _ => z_ = .slice pv k cv), (15, fun z_ _ => z_ = .slice (some ⟨ba, oa, none⟩) l.length ca), (16, fun z_ _ => z_ = .int .i64 (k : Int)), (17, fun z_ _ => z_ = .pointer (some ⟨ba, oa + k * 2, none⟩)), (18, fun z_ _ => z_ = .agg #[.int .i64 a, .int .i64 b]), (19, fun z_ _ => z_ = .slice (some ⟨bb, ob, none⟩) l.length cb), (20, fun z_ _ => z_ = .int .i64 (k : Int)), (21, fun z_ _ => z_ = .pointer (some ⟨bb, ob + k * 2, none⟩)), (22, fun z_ _ => z_ = .agg #[.int .i64 c, .int .i64 d]), (23, fun z_ _ => z_ = .agg #[.int .i64 s1, .int .i64 s2]), (24, fun z_ w' => ∃ X_, z_ = .slice (some ⟨X_, 0, none⟩) 1 1 ∧ wr.heap.size ≤ X_ ∧ w'.heap[X_]? = some (.cells #[.int .i64 s1, .int .i64 s2] 45 (0, 0)))]) (by kernel_rfl) (by kernel_rfl) (lk_steady _ ⟨steady_eq _, steady_eq _, steady_eq _, steady_eq _, steady_eq _, steady_eq _, steady_eq _, steady_eq _, steady_eq _, steady_eq _, fun u w1 w2 hb ⟨X, e, h1, h2⟩ => ⟨X, e, h1, (hb.block X (Array.getElem?_eq_some_iff.1 h2).1).trans h2⟩, trivial⟩) ?_ ?_
      · refine ⟨?_, ?_, ?_, ?_, ?_, ?_, ?_, ?_, ?_, ?_, ?_, trivial⟩
        · refine ob_plain [5] rfl rfl fun aa g h => ?_
          have yy0 := seen_out (v := .slice pv k cv) rfl rfl h.1
          have ee0 := getD_of yy0
          exact tupon_value (v := .slice pv k cv) (by simp [go_sem, ee0, yy0]) (Below.refl _ _) rfl
        · refine ob_plain [0] rfl rfl fun aa g h => ?_
          have yy0 := seen_out (v := .slice (some ⟨ba, oa, none⟩) l.length ca) rfl rfl h.1
          have ee0 := getD_of yy0
          exact tupon_value (v := .slice (some ⟨ba, oa, none⟩) l.length ca) (by simp [go_sem, ee0, yy0]) (Below.refl _ _) rfl
        · refine ob_plain [6] rfl rfl fun aa g h => ?_
          have yy0 := seen_out (v := .int .i64 (k : Int)) rfl rfl h.1
          have ee0 := getD_of yy0
          exact tupon_value (v := .int .i64 (k : Int)) (by simp [go_sem, ee0, yy0]) (Below.refl _ _) rfl
        · refine ob_plain [15, 16] rfl rfl fun aa g h => ?_
          obtain ⟨_, yy0, rfl⟩ := seen_in rfl h.1
          have ee0 := getD_of yy0
          obtain ⟨_, yy1, rfl⟩ := seen_in rfl h.2.1
          have ee1 := getD_of yy1
          exact tupon_value (v := .pointer (some ⟨ba, oa + k * 2, none⟩)) (by simp [go_sem, ee0, yy0, ee1, yy1, i2]) (Below.refl _ _) rfl
        · refine ob_plain [17] rfl rfl fun aa g h => ?_
          obtain ⟨_, yy0, rfl⟩ := seen_in rfl h.1
          have ee0 := getD_of yy0
          exact tupon_value (v := .agg #[.int .i64 a, .int .i64 b]) (by simp [go_sem, ee0, yy0, f0 g, f1 g]) (Below.refl _ _) rfl
        · refine ob_plain [1] rfl rfl fun aa g h => ?_
          have yy0 := seen_out (v := .slice (some ⟨bb, ob, none⟩) l.length cb) rfl rfl h.1
          have ee0 := getD_of yy0
          exact tupon_value (v := .slice (some ⟨bb, ob, none⟩) l.length cb) (by simp [go_sem, ee0, yy0]) (Below.refl _ _) rfl
        · refine ob_plain [6] rfl rfl fun aa g h => ?_
          have yy0 := seen_out (v := .int .i64 (k : Int)) rfl rfl h.1
          have ee0 := getD_of yy0
          exact tupon_value (v := .int .i64 (k : Int)) (by simp [go_sem, ee0, yy0]) (Below.refl _ _) rfl
        · refine ob_plain [19, 20] rfl rfl fun aa g h => ?_
          obtain ⟨_, yy0, rfl⟩ := seen_in rfl h.1
          have ee0 := getD_of yy0
          obtain ⟨_, yy1, rfl⟩ := seen_in rfl h.2.1
          have ee1 := getD_of yy1
          exact tupon_value (v := .pointer (some ⟨bb, ob + k * 2, none⟩)) (by simp [go_sem, ee0, yy0, ee1, yy1, i2]) (Below.refl _ _) rfl
        · refine ob_plain [21] rfl rfl fun aa g h => ?_
          obtain ⟨_, yy0, rfl⟩ := seen_in rfl h.1
          have ee0 := getD_of yy0
          exact tupon_value (v := .agg #[.int .i64 c, .int .i64 d]) (by simp [go_sem, ee0, yy0, g0 g, g1 g]) (Below.refl _ _) rfl
        · refine ob_plain [18, 22] rfl rfl fun aa g h => ?_
          obtain ⟨_, yy0, rfl⟩ := seen_in rfl h.1
          have ee0 := getD_of yy0
          obtain ⟨_, yy1, rfl⟩ := seen_in rfl h.2.1
          have ee1 := getD_of yy1
          refine tupon_enter (f := 66) (args := #[.agg #[.int .i64 a, .int .i64 b], .agg #[.int .i64 c, .int .i64 d]]) (by simp [go_sem, ee0, yy0, ee1, yy1]) rfl ?_
          exact (KC.out g.w).mono fun e w' ⟨he, hB⟩ => ⟨_, he, hB, rfl⟩
        · refine ob_plain [23] rfl rfl fun aa g h => ?_
          obtain ⟨_, yy0, rfl⟩ := seen_in rfl h.1
          have ee0 := getD_of yy0
          exact tupon_value (v := .slice (some ⟨g.w.heap.size, 0, none⟩) 1 1) (w1 := g.w.alloc (.cells #[.int .i64 s1, .int .i64 s2] 45)) (by simp [go_sem, ee0, yy0]) ((Below.refl _ _).alloc (Nat.le_refl _) _) ⟨_, rfl, g.h.size, World.alloc_heap_new _ _⟩
      rintro w9 hB9 _ rfl _ rfl _ rfl _ rfl _ rfl _ rfl _ rfl _ rfl _ rfl _ rfl _ ⟨X24, rfl, hX24, hI24⟩
      simp only [Act.put, List.setIfInBounds_toArray, List.set_cons_succ, List.set_cons_zero, finP, List.drop_succ_cons, List.drop_zero, List.take_zero, List.filterMap_nil]
      have HR9 := Lib.hid (own_keptN HR.out hB9)
      have HB9 := Lib.hid (HT.out.trans (hB9.mono HT.out.size))
      have HNB := Lib.hid (two_at (s1, s2) hI24)
      have hs9 : w.heap.size ≤ w9.heap.size := HB9.out.size
      clear hB9 hI24 hX24 f0 f1 g0 g1 KC HR HT
      go_wp2_with (at_builtin; refine wpList_append_own _ rfl (.tmp 14) (.tmp 24) 26 rfl (w.heap.size) 45 i0 (.agg #[.int .i64 0, .int .i64 0]) 2 16 Try.underlying26 hi0 hz0 hz1 hz2 rfl (by decide) (.slice pv k cv) k _ rfl HR9.out ⟨X24, 0, none⟩ 1 1 (encB (s1, s2)) rfl rfl HNB.out (one_b _) (by unfold maxLen; omega) (by omega) hs9 ?_)
      intro v' w8 hown' hgrow _
      have HB8 := Lib.hid (Below.grown HB9.out hgrow hs9 (fun i hi => (HR9.out.lt i hi).1))
      have HR8 := Lib.hid hown'
      clear hown' hgrow HB9 HR9 HNB hs9
      go_wp2_with (fail)
      go_roundw
      case rel => exact ⟨k + 1, by go_num, by omega, Lib.hid (by rw [HSN.out, cr_snoc]; exact HR8.out), HB8⟩
      case measure => simp [intOf]; omega
    · obtain rfl : k = l.length := by omega
      have i2 : ¬ (l.length : Int) < l.length := by omega
      go_wp2_with (fail)
      go_ret
      refine ⟨_, rfl, ?_, HT.out⟩
      have hl : (hulL l m).length = l.length := hulL_len HL.out
      have h := HR.out
      rw [List.take_of_length_le (by omega)] at h
      have h2 := Rx.own encB_len (l := hulL l m) (v := .slice pv l.length cv) (by rw [hl]; exact h) (by rw [hl]; unfold maxLen; omega)
      exact h2
set_option maxHeartbeats 8000000 in
theorem rinf_ok (va : Value) (l P : List (Int × Int)) (w : World) (ha : Vx w va l) (h6 : l.length ≤ 6) (hvx : ∀ p ∈ l, VI p.1 p.2) (hP : infL l = P) :
    Calls Try.prog 41 #[va] w fun e w' => ∃ u, e = .returned u ∧ Vx w' u P ∧ Below w.heap.size w w' := by
  subst hP
  obtain ⟨i0, hi0, hz0, hz1, hz2⟩ := info_parts info_ivB
  obtain ⟨pa, ca, rfl⟩ := ha.cut
  have HA := Lib.hid ha
  have HVX := Lib.hid hvx
  have HR0 := Lib.hid (own_emptyB w)
  have HW := Lib.hid (show Below w.heap.size w (w.alloc (.cells #[] 45)) from (Below.refl _ _).alloc (Nat.le_refl _) _)
  clear ha hvx
  go_enter Try.func41, Try.ntmps41
  go_wp2_with (fail)
  go_loopw [3, 4, 5] (fun v i y wr => ∃ k : Nat, i = .int .i64 k ∧ k ≤ l.length ∧ Hid (wr.ownsRow w.heap.size 45 2 v k (cr encB ((infL l).take k))) ∧ Hid (Below w.heap.size w wr)) (fun v i y _ => l.length - (intOf i).toNat)
  case atStart => exact ⟨0, rfl, Nat.zero_le _, HR0, HW⟩
  case round =>
    clear HR0 HW
    obtain ⟨k, rfl, hk, HR, HT⟩ := hrel
    obtain ⟨pv, cv, rfl⟩ := own_slice HR.out
    by_cases hlt : k < l.length
    · have i2 : (k : Int) < l.length := by omega
      obtain ⟨⟨a, b⟩, hx⟩ : ∃ x, l[k]? = some x := ⟨_, List.getElem?_eq_getElem hlt⟩
      have hv := HVX.out _ (List.mem_of_getElem? hx)
      dsimp only at hv
      obtain ⟨ha1, ha2, hb1, hb2, hab⟩ := hv.bd
      have hsn := infL_snoc hx
      obtain ⟨y, hy⟩ : ∃ y, (b - a) / 16 + 1 = y := ⟨_, rfl⟩
      have hh : infP (a, b) = (mkLo (a - y) (b + y), mkHi (a - y) (b + y)) := by unfold infP; dsimp only; rw [hy]
      rw [hh] at hsn
      have KW := Lib.hid (fun w => r2width a b w ha1 ha2 hb1 hb2)
      have KC := Lib.hid (fun w => r2new (a - y) (b + y) w)
      obtain ⟨s1, es1⟩ : ∃ s, mkLo (a - y) (b + y) = s := ⟨_, rfl⟩
      obtain ⟨s2, es2⟩ : ∃ s, mkHi (a - y) (b + y) = s := ⟨_, rfl⟩
      rw [es1, es2] at hsn KC
      have HSN := Lib.hid hsn
      have t1 : (b - a).tdiv 16 = (b - a) / 16 := Int.tdiv_eq_ediv_of_nonneg (by omega)
      have U1 : IntKind.i64.wrap ((b - a) / 16) = (b - a) / 16 := wrapN _ (by omega) (by omega)
      have U2 : IntKind.i64.wrap ((b - a) / 16 + 1) = y := by rw [wrapN _ (by omega) (by omega), hy]
      have U3 : IntKind.i64.wrap (a - y) = a - y := wrapN _ (by omega) (by omega)
      have U4 : IntKind.i64.wrap (b + y) = b + y := wrapN _ (by omega) (by omega)
      obtain ⟨ba, oa, hpa, hba, rda⟩ := vx_rd HA.out hx
      subst hpa
      obtain ⟨r0, r1⟩ := rda ⟨wr, HT.out⟩
      clear hx hba hsn hh es1 es2 hv ha1 ha2 hb1 hb2 hab hy
      go_wp2_with (fail)
      refine (KW.out _).mono ?_
      rintro e w1 ⟨rfl, hB⟩
      have HR := Lib.hid (own_keptN HR.out hB)
      have HT := Lib.hid (below_then HT.out hB)
      have f0 := fun g : Grown w1 => (rda ⟨g.w, HT.out.trans (g.h.mono HT.out.size)⟩).1
      have f1 := fun g : Grown w1 => (rda ⟨g.w, HT.out.trans (g.h.mono HT.out.size)⟩).2
      clear rda hB r0 r1 KW
      go_wp2_with (fail)
      refine region_pred_n 17 (lk [(20, fun z_ _ => z_ = .slice pv k cv), (21, fun z_ _ => z_ = .slice (some ⟨ba, oa, none⟩) l.length ca), (22, fun z_ _ => z_ = .int .i64 (k : Int)), (23, fun z_ _ => z_ = .pointer (some ⟨ba, oa + k * 2, none⟩)), (24, fun z_ _ => z_ = .pointer (some ⟨ba, oa + k * 2, none⟩)), (25, fun z_ _ => z_ = .int .i64 a), (26, fun z_ _ => z_ = .int .i64 y), (27, fun z_ _ => z_ = .int .i64 (a - y)), (28, fun z_ _ => z_ = .slice (some ⟨ba, oa, none⟩) l.length ca), (29, fun z_ _ => z_ = .int .i64 (k : Int)), (30, fun z_ _ => z_ = .pointer (some ⟨ba, oa + k * 2, none⟩)), (31, fun z_ _ => z_ = .pointer (some ⟨ba, oa + k * 2 + 1, none⟩)), (32, fun z_ _ => z_ = .int .i64 b), (33, fun z_ _ => z_ = .int .i64 y), (34, fun z_ _ => z_ = .int .i64 (b + y)), (35, fun z_ _ => z_ = .agg #[.int .i64 s1, .int .i64 s2]), (36, fun z_ w' => ∃ X_, z_ = .slice (some ⟨X_, 0, none⟩) 1 1 ∧ w1.heap.size ≤ X_ ∧ w'.heap[X_]? = some (.cells #[.int .i64 s1, .int .i64 s2] 45 (0, 0)))]) (by kernel_rfl) (by kernel_rfl) (lk_steady _ ⟨steady_eq _, steady_eq _, steady_eq _, steady_eq _, steady_eq _, steady_eq _, steady_eq _, steady_eq _, steady_eq _, steady_eq _, steady_eq _, steady_eq _, steady_eq _, steady_eq _, steady_eq _, steady_eq _, fun u w1 w2 hb ⟨X, e, h1, h2⟩ => ⟨X, e, h1, (hb.block X (Array.getElem?_eq_some_iff.1 h2).1).trans h2⟩, trivial⟩) ?_ ?_
      · refine ⟨?_, ?_, ?_, ?_, ?_, ?_, ?_, ?_, ?_, ?_, ?_, ?_, ?_, ?_, ?_, ?_, ?_, trivial⟩
        · refine ob_plain [3] rfl rfl fun aa g h => ?_
          have yy0 := seen_out (v := .slice pv k cv) rfl rfl h.1
          have ee0 := getD_of yy0
          exact tupon_value (v := .slice pv k cv) (by simp [go_sem, ee0, yy0]) (Below.refl _ _) rfl
        · refine ob_plain [0] rfl rfl fun aa g h => ?_
          have yy0 := seen_out (v := .slice (some ⟨ba, oa, none⟩) l.length ca) rfl rfl h.1
          have ee0 := getD_of yy0
          exact tupon_value (v := .slice (some ⟨ba, oa, none⟩) l.length ca) (by simp [go_sem, ee0, yy0]) (Below.refl _ _) rfl
        · refine ob_plain [4] rfl rfl fun aa g h => ?_
          have yy0 := seen_out (v := .int .i64 (k : Int)) rfl rfl h.1
          have ee0 := getD_of yy0
          exact tupon_value (v := .int .i64 (k : Int)) (by simp [go_sem, ee0, yy0]) (Below.refl _ _) rfl
        · refine ob_plain [21, 22] rfl rfl fun aa g h => ?_
          obtain ⟨_, yy0, rfl⟩ := seen_in rfl h.1
          have ee0 := getD_of yy0
          obtain ⟨_, yy1, rfl⟩ := seen_in rfl h.2.1
          have ee1 := getD_of yy1
          exact tupon_value (v := .pointer (some ⟨ba, oa + k * 2, none⟩)) (by simp [go_sem, ee0, yy0, ee1, yy1, i2]) (Below.refl _ _) rfl
        · refine ob_plain [23] rfl rfl fun aa g h => ?_
          obtain ⟨_, yy0, rfl⟩ := seen_in rfl h.1
          have ee0 := getD_of yy0
          exact tupon_value (v := .pointer (some ⟨ba, oa + k * 2, none⟩)) (by simp [go_sem, ee0, yy0]) (Below.refl _ _) rfl
        · refine ob_plain [24] rfl rfl fun aa g h => ?_
          obtain ⟨_, yy0, rfl⟩ := seen_in rfl h.1
          have ee0 := getD_of yy0
          exact tupon_value (v := .int .i64 a) (by simp [go_sem, ee0, yy0, f0 g]) (Below.refl _ _) rfl
        · refine ob_plain [5] rfl rfl fun aa g h => ?_
          have yy0 := seen_out (v := .int .i64 y) rfl rfl h.1
          have ee0 := getD_of yy0
          exact tupon_value (v := .int .i64 y) (by simp [go_sem, ee0, yy0]) (Below.refl _ _) rfl
        · refine ob_plain [25, 26] rfl rfl fun aa g h => ?_
          obtain ⟨_, yy0, rfl⟩ := seen_in rfl h.1
          have ee0 := getD_of yy0
          obtain ⟨_, yy1, rfl⟩ := seen_in rfl h.2.1
          have ee1 := getD_of yy1
          exact tupon_value (v := .int .i64 (a - y)) (by simp [go_sem, ee0, yy0, ee1, yy1, U3]) (Below.refl _ _) rfl
        · refine ob_plain [0] rfl rfl fun aa g h => ?_
          have yy0 := seen_out (v := .slice (some ⟨ba, oa, none⟩) l.length ca) rfl rfl h.1
          have ee0 := getD_of yy0
          exact tupon_value (v := .slice (some ⟨ba, oa, none⟩) l.length ca) (by simp [go_sem, ee0, yy0]) (Below.refl _ _) rfl
        · refine ob_plain [4] rfl rfl fun aa g h => ?_
          have yy0 := seen_out (v := .int .i64 (k : Int)) rfl rfl h.1
          have ee0 := getD_of yy0
          exact tupon_value (v := .int .i64 (k : Int)) (by simp [go_sem, ee0, yy0]) (Below.refl _ _) rfl
        · refine ob_plain [28, 29] rfl rfl fun aa g h => ?_
          obtain ⟨_, yy0, rfl⟩ := seen_in rfl h.1
          have ee0 := getD_of yy0
          obtain ⟨_, yy1, rfl⟩ := seen_in rfl h.2.1
          have ee1 := getD_of yy1
          exact tupon_value (v := .pointer (some ⟨ba, oa + k * 2, none⟩)) (by simp [go_sem, ee0, yy0, ee1, yy1, i2]) (Below.refl _ _) rfl
        · refine ob_plain [30] rfl rfl fun aa g h => ?_
          obtain ⟨_, yy0, rfl⟩ := seen_in rfl h.1
          have ee0 := getD_of yy0
          exact tupon_value (v := .pointer (some ⟨ba, oa + k * 2 + 1, none⟩)) (by simp [go_sem, ee0, yy0]) (Below.refl _ _) rfl
        · refine ob_plain [31] rfl rfl fun aa g h => ?_
          obtain ⟨_, yy0, rfl⟩ := seen_in rfl h.1
          have ee0 := getD_of yy0
          exact tupon_value (v := .int .i64 b) (by simp [go_sem, ee0, yy0, f1 g]) (Below.refl _ _) rfl
        · refine ob_plain [5] rfl rfl fun aa g h => ?_
          have yy0 := seen_out (v := .int .i64 y) rfl rfl h.1
          have ee0 := getD_of yy0
          exact tupon_value (v := .int .i64 y) (by simp [go_sem, ee0, yy0]) (Below.refl _ _) rfl
        · refine ob_plain [32, 33] rfl rfl fun aa g h => ?_
          obtain ⟨_, yy0, rfl⟩ := seen_in rfl h.1
          have ee0 := getD_of yy0
          obtain ⟨_, yy1, rfl⟩ := seen_in rfl h.2.1
          have ee1 := getD_of yy1
          exact tupon_value (v := .int .i64 (b + y)) (by simp [go_sem, ee0, yy0, ee1, yy1, U4]) (Below.refl _ _) rfl
        · refine ob_plain [27, 34] rfl rfl fun aa g h => ?_
          obtain ⟨_, yy0, rfl⟩ := seen_in rfl h.1
          have ee0 := getD_of yy0
          obtain ⟨_, yy1, rfl⟩ := seen_in rfl h.2.1
          have ee1 := getD_of yy1
          refine tupon_enter (f := 27) (args := #[.int .i64 (a - y), .int .i64 (b + y)]) (by simp [go_sem, ee0, yy0, ee1, yy1]) rfl ?_
          exact (KC.out g.w).mono fun e w' ⟨he, hB⟩ => ⟨_, he, hB, rfl⟩
        · refine ob_plain [35] rfl rfl fun aa g h => ?_
          obtain ⟨_, yy0, rfl⟩ := seen_in rfl h.1
          have ee0 := getD_of yy0
          exact tupon_value (v := .slice (some ⟨g.w.heap.size, 0, none⟩) 1 1) (w1 := g.w.alloc (.cells #[.int .i64 s1, .int .i64 s2] 45)) (by simp [go_sem, ee0, yy0]) ((Below.refl _ _).alloc (Nat.le_refl _) _) ⟨_, rfl, g.h.size, World.alloc_heap_new _ _⟩
      rintro w9 hB9 _ rfl _ rfl _ rfl _ rfl _ rfl _ rfl _ rfl _ rfl _ rfl _ rfl _ rfl _ rfl _ rfl _ rfl _ rfl _ rfl _ ⟨X36, rfl, hX36, hI36⟩
      simp only [Act.put, List.setIfInBounds_toArray, List.set_cons_succ, List.set_cons_zero, finP, List.drop_succ_cons, List.drop_zero, List.take_zero, List.filterMap_nil]
      have HR9 := Lib.hid (own_keptN HR.out hB9)
      have HB9 := Lib.hid (HT.out.trans (hB9.mono HT.out.size))
      have HNB := Lib.hid (two_at (s1, s2) hI36)
      have hs9 : w.heap.size ≤ w9.heap.size := HB9.out.size
      clear hB9 hI36 hX36 f0 f1 KC U1 U2 U3 U4 t1 HR HT
      go_wp2_with (at_builtin; refine wpList_append_own _ rfl (.tmp 20) (.tmp 36) 26 rfl (w.heap.size) 45 i0 (.agg #[.int .i64 0, .int .i64 0]) 2 16 Try.underlying26 hi0 hz0 hz1 hz2 rfl (by decide) (.slice pv k cv) k _ rfl HR9.out ⟨X36, 0, none⟩ 1 1 (encB (s1, s2)) rfl rfl HNB.out (one_b _) (by unfold maxLen; omega) (by omega) hs9 ?_)
      intro v' w8 hown' hgrow _
      have HB8 := Lib.hid (Below.grown HB9.out hgrow hs9 (fun i hi => (HR9.out.lt i hi).1))
      have HR8 := Lib.hid hown'
      clear hown' hgrow HB9 HR9 HNB hs9
      go_wp2_with (fail)
      go_roundw
      case rel => exact ⟨k + 1, by go_num, by omega, Lib.hid (by rw [HSN.out, cr_snoc]; exact HR8.out), HB8⟩
      case measure => simp [intOf]; omega
    · obtain rfl : k = l.length := by omega
      have i2 : ¬ (l.length : Int) < l.length := by omega
      go_wp2_with (fail)
      go_ret
      refine ⟨_, rfl, ?_, HT.out⟩
      have hl : (infL l).length = l.length := inf_len l
      have h := HR.out
      rw [List.take_of_length_le (by omega)] at h
      have h2 := Rx.own encB_len (l := infL l) (v := .slice pv l.length cv) (by rw [hl]; exact h) (by rw [hl]; unfold maxLen; omega)
      exact h2
set_option maxHeartbeats 16000000 in
theorem rimg_ok (N T H : Int) (vl vo vx vb : Value) (L : List Is) (O : List Int) (X B P : List (Int × Int)) (w : World) (hl : Ix w vl L) (ho : Px w vo O) (hx : Vx w vx X) (hb : Vx w vb B) (htv : tvB N L O = true) (hXN : (X.length : Int) = N) (hBN : (B.length : Int) = N) (hvx : ∀ p ∈ X, VI p.1 p.2) (hvb : ∀ p ∈ B, VI p.1 p.2) (ht1 : -1048576 ≤ T) (ht2 : T ≤ 1048576) (h0 : 0 ≤ H) (h1 : H ≤ 1000000) (hP : imgT L O T H X B = P) :
    Calls Try.prog 18 #[.agg #[.int .i64 N, vl, vo], vx, vb, .agg #[.int .i64 T, .int .i64 H]] w fun e w' => ∃ u, e = .returned u ∧ Vx w' u P ∧ Below w.heap.size w w' := by
  obtain ⟨i0, hi0, hz0, hz1, hz2⟩ := info_parts info_ivB
  obtain ⟨hn1, hn6, h400, hon, hvl, hout⟩ := tv_cases htv
  obtain ⟨px, cx, rfl⟩ := hx.cut
  obtain ⟨pb, cb, rfl⟩ := hb.cut
  obtain ⟨F, hF⟩ : ∃ F, outV (evL B (T, T + H) L) O = F := ⟨_, rfl⟩
  have hFl : F.length = X.length := by rw [← hF, out_len]; omega
  have hvf : ∀ p ∈ F, VI p.1 p.2 := by rw [← hF]; exact out_vi (evL_vi hvb (time_vi ht1 ht2 h0 h1) hvl)
  have hPi : imgL H X F = P := by rw [← hP, ← hF]; rfl
  subst hPi
  have KE := Lib.hid (fun w a b c => reval_ok N T (T + H) vl vo (.slice pb B.length cb) L O B w a b c hBN htv hvb (time_vi ht1 ht2 h0 h1))
  rw [hF] at KE
  have KT := Lib.hid (fun w => new_at T (T + H) (by unfold Num; omega) (by unfold Num; omega) w)
  have KN := Lib.hid (fun w => new_at 0 H (by decide) (by unfold Num; omega) w)
  have h0v : VI 0 H := .inr ⟨by decide, by unfold Num; omega, h0⟩
  have HOV := Lib.hid h0v
  have U1 : IntKind.i64.wrap (T + H) = T + H := wrapN _ (by omega) (by omega)
  have hE : Below w.heap.size w ((w.alloc (.cells #[.int .i64 N, vl, vo] 25)).alloc (.cells #[.int .i64 T, .int .i64 H] 33)) := allocs_below [.cells #[.int .i64 N, vl, vo] 25, .cells #[.int .i64 T, .int .i64 H] 33] w
  have HC := Lib.hid (show Blk ((w.alloc (.cells #[.int .i64 N, vl, vo] 25)).alloc (.cells #[.int .i64 T, .int .i64 H] 33)) w.heap.size (.cells #[.int .i64 N, vl, vo] 25) from allocs_at [.cells #[.int .i64 N, vl, vo] 25, .cells #[.int .i64 T, .int .i64 H] 33] w 0 _ rfl)
  have HS := Lib.hid (show Blk ((w.alloc (.cells #[.int .i64 N, vl, vo] 25)).alloc (.cells #[.int .i64 T, .int .i64 H] 33)) (w.heap.size + 1) (.cells #[.int .i64 T, .int .i64 H] 33) from allocs_at [.cells #[.int .i64 N, vl, vo] 25, .cells #[.int .i64 T, .int .i64 H] 33] w 1 _ rfl)
  have HL := Lib.hid (hl.grow hE)
  have HO := Lib.hid (ho.grow hE)
  have HB := Lib.hid (hb.grow hE)
  have HX := Lib.hid hx
  have HW := Lib.hid hE
  have HVX := Lib.hid hvx
  have HVF := Lib.hid hvf
  have HFL := Lib.hid hFl
  have hs5 : w.heap.size + 1 < ((w.alloc (.cells #[.int .i64 N, vl, vo] 25)).alloc (.cells #[.int .i64 T, .int .i64 H] 33)).heap.size := (Array.getElem?_eq_some_iff.1 HS.out).1
  have hX1 : 1 ≤ X.length := by omega
  have hX6 : X.length ≤ 6 := by omega
  clear hl ho hx hb htv hXN hBN hvx hvb ht1 ht2 h0 h1 hP hn1 hn6 h400 hon hvl hout hF hFl hvf hE h0v
  go_enter Try.func18, Try.ntmps18
  go_wp2_with (fail)
  generalize hWc : World.alloc (World.alloc w _) _ = W5 at *
  clear hWc
  have c0 := fun g : Grown W5 => heapN_cellj (HC.out.grow g.h) (k := 0) rfl
  have c1 := fun g : Grown W5 => heapN_cellj (HC.out.grow g.h) (k := 1) rfl
  have c2 := fun g : Grown W5 => heapN_cellj (HC.out.grow g.h) (k := 2) rfl
  have s0 := fun g : Grown W5 => heapN_cellj (HS.out.grow g.h) (k := 0) rfl
  have s1 := fun g : Grown W5 => heapN_cellj (HS.out.grow g.h) (k := 1) rfl
  refine region_pred (lk [(12, fun z_ _ => z_ = .agg #[.int .i64 N, vl, vo]), (13, fun z_ _ => z_ = .slice pb B.length cb), (14, fun z_ _ => z_ = .pointer (some ⟨w.heap.size + 1, 0, none⟩)), (15, fun z_ _ => z_ = .int .i64 T), (16, fun z_ _ => z_ = .pointer (some ⟨w.heap.size + 1, 0, none⟩)), (17, fun z_ _ => z_ = .int .i64 T), (18, fun z_ _ => z_ = .pointer (some ⟨w.heap.size + 1, 1, none⟩)), (19, fun z_ _ => z_ = .int .i64 H), (20, fun z_ _ => z_ = .int .i64 (T + H)), (21, fun z_ _ => z_ = .agg #[.int .i64 T, .int .i64 (T + H)]), (22, fun z_ w' => Vx w' z_ F), (23, fun z_ w' => ∃ X_, z_ = .slice (some ⟨X_, 0, none⟩) 0 0 ∧ W5.heap.size ≤ X_ ∧ w'.heap[X_]? = some (.cells #[] 45 (0, 0))), (9, fun z_ w' => Vx w' z_ F), (10, fun z_ w' => ∃ X_, z_ = .slice (some ⟨X_, 0, none⟩) 0 0 ∧ W5.heap.size ≤ X_ ∧ w'.heap[X_]? = some (.cells #[] 45 (0, 0)))]) (by kernel_rfl) (by kernel_rfl) (lk_steady _ ⟨steady_eq _, steady_eq _, steady_eq _, steady_eq _, steady_eq _, steady_eq _, steady_eq _, steady_eq _, steady_eq _, steady_eq _, fun u w1 w2 hb h => h.grow hb, fun u w1 w2 hb ⟨X, e, h1, h2⟩ => ⟨X, e, h1, (hb.block X (Array.getElem?_eq_some_iff.1 h2).1).trans h2⟩, fun u w1 w2 hb h => h.grow hb, fun u w1 w2 hb ⟨X, e, h1, h2⟩ => ⟨X, e, h1, (hb.block X (Array.getElem?_eq_some_iff.1 h2).1).trans h2⟩, trivial⟩) ?_ ?_
  · refine ⟨?_, ?_, ?_, ?_, ?_, ?_, ?_, ?_, ?_, ?_, ?_, ?_, ?_, ?_, trivial⟩
    · refine ob_plain [4] rfl rfl fun aa g h => ?_
      have yy0 := seen_out (v := .pointer (some ⟨w.heap.size, 0, none⟩)) rfl rfl h.1
      have ee0 := getD_of yy0
      exact tupon_value (v := .agg #[.int .i64 N, vl, vo]) (by simp [go_sem, ee0, yy0, c0 g, c1 g, c2 g]) (Below.refl _ _) rfl
    · refine ob_plain [2] rfl rfl fun aa g h => ?_
      have yy0 := seen_out (v := .slice pb B.length cb) rfl rfl h.1
      have ee0 := getD_of yy0
      exact tupon_value (v := .slice pb B.length cb) (by simp [go_sem, ee0, yy0]) (Below.refl _ _) rfl
    · refine ob_plain [7] rfl rfl fun aa g h => ?_
      have yy0 := seen_out (v := .pointer (some ⟨w.heap.size + 1, 0, none⟩)) rfl rfl h.1
      have ee0 := getD_of yy0
      exact tupon_value (v := .pointer (some ⟨w.heap.size + 1, 0, none⟩)) (by simp [go_sem, ee0, yy0]) (Below.refl _ _) rfl
    · refine ob_plain [14] rfl rfl fun aa g h => ?_
      obtain ⟨_, yy0, rfl⟩ := seen_in rfl h.1
      have ee0 := getD_of yy0
      exact tupon_value (v := .int .i64 T) (by simp [go_sem, ee0, yy0, s0 g]) (Below.refl _ _) rfl
    · refine ob_plain [7] rfl rfl fun aa g h => ?_
      have yy0 := seen_out (v := .pointer (some ⟨w.heap.size + 1, 0, none⟩)) rfl rfl h.1
      have ee0 := getD_of yy0
      exact tupon_value (v := .pointer (some ⟨w.heap.size + 1, 0, none⟩)) (by simp [go_sem, ee0, yy0]) (Below.refl _ _) rfl
    · refine ob_plain [16] rfl rfl fun aa g h => ?_
      obtain ⟨_, yy0, rfl⟩ := seen_in rfl h.1
      have ee0 := getD_of yy0
      exact tupon_value (v := .int .i64 T) (by simp [go_sem, ee0, yy0, s0 g]) (Below.refl _ _) rfl
    · refine ob_plain [7] rfl rfl fun aa g h => ?_
      have yy0 := seen_out (v := .pointer (some ⟨w.heap.size + 1, 0, none⟩)) rfl rfl h.1
      have ee0 := getD_of yy0
      exact tupon_value (v := .pointer (some ⟨w.heap.size + 1, 1, none⟩)) (by simp [go_sem, ee0, yy0]) (Below.refl _ _) rfl
    · refine ob_plain [18] rfl rfl fun aa g h => ?_
      obtain ⟨_, yy0, rfl⟩ := seen_in rfl h.1
      have ee0 := getD_of yy0
      exact tupon_value (v := .int .i64 H) (by simp [go_sem, ee0, yy0, s1 g]) (Below.refl _ _) rfl
    · refine ob_plain [17, 19] rfl rfl fun aa g h => ?_
      obtain ⟨_, yy0, rfl⟩ := seen_in rfl h.1
      have ee0 := getD_of yy0
      obtain ⟨_, yy1, rfl⟩ := seen_in rfl h.2.1
      have ee1 := getD_of yy1
      exact tupon_value (v := .int .i64 (T + H)) (by simp [go_sem, ee0, yy0, ee1, yy1, U1]) (Below.refl _ _) rfl
    · refine ob_plain [15, 20] rfl rfl fun aa g h => ?_
      obtain ⟨_, yy0, rfl⟩ := seen_in rfl h.1
      have ee0 := getD_of yy0
      obtain ⟨_, yy1, rfl⟩ := seen_in rfl h.2.1
      have ee1 := getD_of yy1
      refine tupon_enter (f := 27) (args := #[.int .i64 T, .int .i64 (T + H)]) (by simp [go_sem, ee0, yy0, ee1, yy1]) rfl ?_
      exact (KT.out g.w).mono fun e w' ⟨he, hB⟩ => ⟨_, he, hB, rfl⟩
    · refine ob_plain [12, 13, 21] rfl rfl fun aa g h => ?_
      obtain ⟨_, yy0, rfl⟩ := seen_in rfl h.1
      have ee0 := getD_of yy0
      obtain ⟨_, yy1, rfl⟩ := seen_in rfl h.2.1
      have ee1 := getD_of yy1
      obtain ⟨_, yy2, rfl⟩ := seen_in rfl h.2.2.1
      have ee2 := getD_of yy2
      refine tupon_enter (f := 48) (args := #[.agg #[.int .i64 N, vl, vo], .slice pb B.length cb, .agg #[.int .i64 T, .int .i64 (T + H)]]) (by simp [go_sem, ee0, yy0, ee1, yy1, ee2, yy2]) rfl ?_
      exact (KE.out g.w (HL.out.grow g.h) (HO.out.grow g.h) (HB.out.grow g.h)).mono fun e w' ⟨u9, he, hv, hB⟩ => ⟨_, he, hB, hv⟩
    · refine ob_plain [] rfl rfl fun aa g h => ?_
      exact tupon_value (v := .slice (some ⟨g.w.heap.size, 0, none⟩) 0 0) (w1 := g.w.alloc (.cells #[] 45)) (by simp [go_sem]) ((Below.refl _ _).alloc (Nat.le_refl _) _) ⟨_, rfl, g.h.size, World.alloc_heap_new _ _⟩
    · refine ob_plain [22] rfl rfl fun aa g h => ?_
      obtain ⟨z22, yy0, hv22⟩ := seen_in rfl h.1
      have ee0 := getD_of yy0
      exact tupon_value (v := z22) (by simp [go_sem, ee0, yy0]) (Below.refl _ _) hv22
    · refine ob_plain [23] rfl rfl fun aa g h => ?_
      obtain ⟨_, yy0, ⟨X23, rfl, hX23, hI23⟩⟩ := seen_in rfl h.1
      have ee0 := getD_of yy0
      exact tupon_value (v := .slice (some ⟨X23, 0, none⟩) 0 0) (by simp [go_sem, ee0, yy0]) (Below.refl _ _) ⟨_, rfl, hX23, hI23⟩
  rintro w6 hB6 _ rfl _ rfl _ rfl _ rfl _ rfl _ rfl _ rfl _ rfl _ rfl _ rfl z22 hv22 _ ⟨X23, rfl, hX23, hI23⟩ z9 hv9 _ ⟨X10, rfl, hX10, hI10⟩
  simp only [Act.put, List.setIfInBounds_toArray, List.set_cons_succ, List.set_cons_zero, List.filterMap_nil, finP]
  obtain ⟨pf, cf, rfl⟩ := hv9.cut
  obtain ⟨⟨e0, e1⟩, hf0⟩ : ∃ x, F[0]? = some x := ⟨_, List.getElem?_eq_getElem (by rw [HFL.out]; omega)⟩
  obtain ⟨bf, of, hpf, hbf, rdf⟩ := vx_rd hv9 hf0
  subst hpf
  have hbx : bf ≠ X10 := by
    intro e2
    have hc := (rdf ⟨w6, Below.refl _ _⟩).1
    subst e2
    simp [World.cell?, hI10] at hc
  have hrow3 : w6.ownsRow W5.heap.size 45 2 (.slice (some ⟨X10, 0, none⟩) 0 0) 0 [] := ⟨rfl, .inr ⟨_, 0, #[], rfl, hX10, hI10, Nat.le_refl _, Nat.zero_le _, rfl, rfl⟩⟩
  have HJ0 := Lib.hid (show RwJ W5.heap.size w6 bf of F.length cf F (.slice (some ⟨X10, 0, none⟩) 0 0) ((imgL H X F).take 0) w6 from ⟨hrow3, fun e2 => hbx (by simp only [Value.ownBlock, Option.some.injEq] at e2; exact e2.symm), hv9, Below.refl _ _, hB6.size, hbf⟩)
  have HS6 := Lib.hid (HS.out.grow hB6)
  have HW6 := Lib.hid (below_then HW.out hB6)
  clear hB6 hv9 hv22 hX10 hI10 hX23 hI23 hf0 hbf rdf hbx hrow3 KE KT HL HO HB HC HS HW c0 c1 c2 s0 s1 U1
  go_wp2_with (fail)
  go_loopw [10, 11] (fun v i wr => ∃ k : Nat, i = .int .i64 k ∧ k ≤ X.length ∧ Hid (RwJ W5.heap.size w6 bf of F.length cf F v ((imgL H X F).take k) wr)) (fun v i _ => X.length - (intOf i).toNat)
  case atStart => exact ⟨0, rfl, Nat.zero_le _, HJ0⟩
  case round =>
    clear HJ0
    obtain ⟨k, rfl, hk, HI⟩ := hrel
    have hlen : (imgL H X F).length = X.length := imgL_len HFL.out
    have hok : ((imgL H X F).take k).length = k := by rw [List.length_take]; omega
    obtain ⟨pv, cv, hv⟩ := own_slice HI.out.row
    rw [hok] at hv
    subst hv
    have HT := Lib.hid (HW6.out.trans (HI.out.bel.mono (by omega)))
    have hss := (HI.out.bel.block _ hs5).trans HS6.out
    have HSS := Lib.hid (show Blk wr (w.heap.size + 1) (.cells #[.int .i64 T, .int .i64 H] 33) from hss)
    clear hss
    by_cases hlt : k < X.length
    · have i2 : (k : Int) < X.length := by omega
      have i3 : (k : Int) < F.length := by rw [HFL.out]; omega
      obtain ⟨⟨a, b⟩, hx⟩ : ∃ x, X[k]? = some x := ⟨_, List.getElem?_eq_getElem hlt⟩
      obtain ⟨⟨c, d⟩, hf⟩ : ∃ x, F[k]? = some x := ⟨_, List.getElem?_eq_getElem (by rw [HFL.out]; exact hlt)⟩
      have hsn := imgL_snoc (H := H) hx hf
      rw [imgP_eq] at hsn
      dsimp only at hsn
      have hvx := HVX.out _ (List.mem_of_getElem? hx)
      have hvf := HVF.out _ (List.mem_of_getElem? hf)
      dsimp only at hvx hvf
      have hm : VI (mulLo 0 H c d) (mulHi 0 H c d) := by
        have := opI_vi 9 (p := (0, H)) (q := (c, d)) HOV.out hvf
        simpa [opI] using this
      have KM := Lib.hid (fun w => r2mul 0 H c d w HOV.out hvf)
      obtain ⟨m1, em1⟩ : ∃ s, mulLo 0 H c d = s := ⟨_, rfl⟩
      obtain ⟨m2, em2⟩ : ∃ s, mulHi 0 H c d = s := ⟨_, rfl⟩
      rw [em1, em2] at hsn KM hm
      obtain ⟨x1, x2, x3, x4, _⟩ := hvx.bd
      obtain ⟨y1, y2, y3, y4, _⟩ := hm.bd
      have KA := Lib.hid (fun w => r2add a b m1 m2 w x1 x2 x3 x4 y1 y2 y3 y4)
      obtain ⟨s1, es1⟩ : ∃ s, addLo a b m1 m2 = s := ⟨_, rfl⟩
      obtain ⟨s2, es2⟩ : ∃ s, addHi a b m1 m2 = s := ⟨_, rfl⟩
      rw [es1, es2] at hsn KA
      have HSN := Lib.hid hsn
      obtain ⟨bx, ox, hpx, hbx, rdx⟩ := vx_rd HX.out hx
      subst hpx
      obtain ⟨bv, ov, hpv, hbv, rdv⟩ := vx_rd HI.out.old hf
      simp only [Option.some.injEq, Addr.mk.injEq, and_true] at hpv
      obtain ⟨rfl, rfl⟩ := hpv
      have f0 := fun g : Grown wr => (rdx ⟨g.w, HT.out.trans (g.h.mono HT.out.size)⟩).1
      have f1 := fun g : Grown wr => (rdx ⟨g.w, HT.out.trans (g.h.mono HT.out.size)⟩).2
      have g0 := fun g : Grown wr => (rdv g).1
      have g1 := fun g : Grown wr => (rdv g).2
      have t1 := fun g : Grown wr => heapN_cellj (HSS.out.grow g.h) (k := 1) rfl
      clear rdx rdv hx hf hsn hvx hvf hm em1 em2 es1 es2 hbx hbv x1 x2 x3 x4 y1 y2 y3 y4
      go_wp2_with (fail)
      refine region_pred_n 15 (lk [(30, fun z_ _ => z_ = .slice pv k cv), (31, fun z_ _ => z_ = .slice (some ⟨bx, ox, none⟩) X.length cx), (32, fun z_ _ => z_ = .int .i64 (k : Int)), (33, fun z_ _ => z_ = .pointer (some ⟨bx, ox + k * 2, none⟩)), (34, fun z_ _ => z_ = .agg #[.int .i64 a, .int .i64 b]), (35, fun z_ _ => z_ = .pointer (some ⟨w.heap.size + 1, 1, none⟩)), (36, fun z_ _ => z_ = .int .i64 H), (37, fun z_ _ => z_ = .agg #[.int .i64 0, .int .i64 H]), (38, fun z_ _ => z_ = .slice (some ⟨bf, of, none⟩) F.length cf), (39, fun z_ _ => z_ = .int .i64 (k : Int)), (40, fun z_ _ => z_ = .pointer (some ⟨bf, of + k * 2, none⟩)), (41, fun z_ _ => z_ = .agg #[.int .i64 c, .int .i64 d]), (42, fun z_ _ => z_ = .agg #[.int .i64 m1, .int .i64 m2]), (43, fun z_ _ => z_ = .agg #[.int .i64 s1, .int .i64 s2]), (44, fun z_ w' => ∃ X_, z_ = .slice (some ⟨X_, 0, none⟩) 1 1 ∧ wr.heap.size ≤ X_ ∧ w'.heap[X_]? = some (.cells #[.int .i64 s1, .int .i64 s2] 45 (0, 0)))]) (by kernel_rfl) (by kernel_rfl) (lk_steady _ ⟨steady_eq _, steady_eq _, steady_eq _, steady_eq _, steady_eq _, steady_eq _, steady_eq _, steady_eq _, steady_eq _, steady_eq _, steady_eq _, steady_eq _, steady_eq _, steady_eq _, fun u w1 w2 hb ⟨X, e, h1, h2⟩ => ⟨X, e, h1, (hb.block X (Array.getElem?_eq_some_iff.1 h2).1).trans h2⟩, trivial⟩) ?_ ?_
      · refine ⟨?_, ?_, ?_, ?_, ?_, ?_, ?_, ?_, ?_, ?_, ?_, ?_, ?_, ?_, ?_, trivial⟩
        · refine ob_plain [10] rfl rfl fun aa g h => ?_
          have yy0 := seen_out (v := .slice pv k cv) rfl rfl h.1
          have ee0 := getD_of yy0
          exact tupon_value (v := .slice pv k cv) (by simp [go_sem, ee0, yy0]) (Below.refl _ _) rfl
        · refine ob_plain [1] rfl rfl fun aa g h => ?_
          have yy0 := seen_out (v := .slice (some ⟨bx, ox, none⟩) X.length cx) rfl rfl h.1
          have ee0 := getD_of yy0
          exact tupon_value (v := .slice (some ⟨bx, ox, none⟩) X.length cx) (by simp [go_sem, ee0, yy0]) (Below.refl _ _) rfl
        · refine ob_plain [11] rfl rfl fun aa g h => ?_
          have yy0 := seen_out (v := .int .i64 (k : Int)) rfl rfl h.1
          have ee0 := getD_of yy0
          exact tupon_value (v := .int .i64 (k : Int)) (by simp [go_sem, ee0, yy0]) (Below.refl _ _) rfl
        · refine ob_plain [31, 32] rfl rfl fun aa g h => ?_
          obtain ⟨_, yy0, rfl⟩ := seen_in rfl h.1
          have ee0 := getD_of yy0
          obtain ⟨_, yy1, rfl⟩ := seen_in rfl h.2.1
          have ee1 := getD_of yy1
          exact tupon_value (v := .pointer (some ⟨bx, ox + k * 2, none⟩)) (by simp [go_sem, ee0, yy0, ee1, yy1, i2]) (Below.refl _ _) rfl
        · refine ob_plain [33] rfl rfl fun aa g h => ?_
          obtain ⟨_, yy0, rfl⟩ := seen_in rfl h.1
          have ee0 := getD_of yy0
          exact tupon_value (v := .agg #[.int .i64 a, .int .i64 b]) (by simp [go_sem, ee0, yy0, f0 g, f1 g]) (Below.refl _ _) rfl
        · refine ob_plain [7] rfl rfl fun aa g h => ?_
          have yy0 := seen_out (v := .pointer (some ⟨w.heap.size + 1, 0, none⟩)) rfl rfl h.1
          have ee0 := getD_of yy0
          exact tupon_value (v := .pointer (some ⟨w.heap.size + 1, 1, none⟩)) (by simp [go_sem, ee0, yy0]) (Below.refl _ _) rfl
        · refine ob_plain [35] rfl rfl fun aa g h => ?_
          obtain ⟨_, yy0, rfl⟩ := seen_in rfl h.1
          have ee0 := getD_of yy0
          exact tupon_value (v := .int .i64 H) (by simp [go_sem, ee0, yy0, t1 g]) (Below.refl _ _) rfl
        · refine ob_plain [36] rfl rfl fun aa g h => ?_
          obtain ⟨_, yy0, rfl⟩ := seen_in rfl h.1
          have ee0 := getD_of yy0
          refine tupon_enter (f := 27) (args := #[.int .i64 0, .int .i64 H]) (by simp [go_sem, ee0, yy0]) rfl ?_
          exact (KN.out g.w).mono fun e w' ⟨he, hB⟩ => ⟨_, he, hB, rfl⟩
        · refine ob_plain [9] rfl rfl fun aa g h => ?_
          have yy0 := seen_out (v := .slice (some ⟨bf, of, none⟩) F.length cf) rfl rfl h.1
          have ee0 := getD_of yy0
          exact tupon_value (v := .slice (some ⟨bf, of, none⟩) F.length cf) (by simp [go_sem, ee0, yy0]) (Below.refl _ _) rfl
        · refine ob_plain [11] rfl rfl fun aa g h => ?_
          have yy0 := seen_out (v := .int .i64 (k : Int)) rfl rfl h.1
          have ee0 := getD_of yy0
          exact tupon_value (v := .int .i64 (k : Int)) (by simp [go_sem, ee0, yy0]) (Below.refl _ _) rfl
        · refine ob_plain [38, 39] rfl rfl fun aa g h => ?_
          obtain ⟨_, yy0, rfl⟩ := seen_in rfl h.1
          have ee0 := getD_of yy0
          obtain ⟨_, yy1, rfl⟩ := seen_in rfl h.2.1
          have ee1 := getD_of yy1
          exact tupon_value (v := .pointer (some ⟨bf, of + k * 2, none⟩)) (by simp [go_sem, ee0, yy0, ee1, yy1, i3]) (Below.refl _ _) rfl
        · refine ob_plain [40] rfl rfl fun aa g h => ?_
          obtain ⟨_, yy0, rfl⟩ := seen_in rfl h.1
          have ee0 := getD_of yy0
          exact tupon_value (v := .agg #[.int .i64 c, .int .i64 d]) (by simp [go_sem, ee0, yy0, g0 g, g1 g]) (Below.refl _ _) rfl
        · refine ob_plain [37, 41] rfl rfl fun aa g h => ?_
          obtain ⟨_, yy0, rfl⟩ := seen_in rfl h.1
          have ee0 := getD_of yy0
          obtain ⟨_, yy1, rfl⟩ := seen_in rfl h.2.1
          have ee1 := getD_of yy1
          refine tupon_enter (f := 49) (args := #[.agg #[.int .i64 0, .int .i64 H], .agg #[.int .i64 c, .int .i64 d]]) (by simp [go_sem, ee0, yy0, ee1, yy1]) rfl ?_
          exact (KM.out g.w).mono fun e w' ⟨he, hB⟩ => ⟨_, he, hB, rfl⟩
        · refine ob_plain [34, 42] rfl rfl fun aa g h => ?_
          obtain ⟨_, yy0, rfl⟩ := seen_in rfl h.1
          have ee0 := getD_of yy0
          obtain ⟨_, yy1, rfl⟩ := seen_in rfl h.2.1
          have ee1 := getD_of yy1
          refine tupon_enter (f := 31) (args := #[.agg #[.int .i64 a, .int .i64 b], .agg #[.int .i64 m1, .int .i64 m2]]) (by simp [go_sem, ee0, yy0, ee1, yy1]) rfl ?_
          exact (KA.out g.w).mono fun e w' ⟨he, hB⟩ => ⟨_, he, hB, rfl⟩
        · refine ob_plain [43] rfl rfl fun aa g h => ?_
          obtain ⟨_, yy0, rfl⟩ := seen_in rfl h.1
          have ee0 := getD_of yy0
          exact tupon_value (v := .slice (some ⟨g.w.heap.size, 0, none⟩) 1 1) (w1 := g.w.alloc (.cells #[.int .i64 s1, .int .i64 s2] 45)) (by simp [go_sem, ee0, yy0]) ((Below.refl _ _).alloc (Nat.le_refl _) _) ⟨_, rfl, g.h.size, World.alloc_heap_new _ _⟩
      rintro w9 hB9 _ rfl _ rfl _ rfl _ rfl _ rfl _ rfl _ rfl _ rfl _ rfl _ rfl _ rfl _ rfl _ rfl _ rfl _ ⟨X44, rfl, hX44, hI44⟩
      simp only [Act.put, List.setIfInBounds_toArray, List.set_cons_succ, List.set_cons_zero, finP, List.drop_succ_cons, List.drop_zero, List.take_zero, List.filterMap_nil]
      have HI9 := Lib.hid (HI.out.grow hB9)
      have HNB := Lib.hid (two_at (s1, s2) hI44)
      have hrw := HI9.out.row
      rw [hok] at hrw
      have HRW := Lib.hid hrw
      have hs9 := HI9.out.sz
      clear hB9 hI44 hX44 f0 f1 g0 g1 t1 KM KA HI HT HSS hrw
      go_wp2_with (at_builtin; refine wpList_append_own_at _ rfl (.tmp 30) (.tmp 44) 26 rfl (W5.heap.size) 45 i0 (.agg #[.int .i64 0, .int .i64 0]) 2 16 Try.underlying26 hi0 hz0 hz1 hz2 rfl (by decide) (.slice pv k cv) k _ rfl HRW.out ⟨X44, 0, none⟩ 1 1 (encB (s1, s2)) rfl rfl HNB.out (one_b _) (by unfold maxLen; omega) (by omega) hs9 ?_)
      intro v' w8 hown' hgrow _ hat
      have HI8 := Lib.hid (show RwJ W5.heap.size w6 bf of F.length cf F v' ((imgL H X F).take (k + 1)) w8 from by rw [HSN.out]; exact HI9.out.push (by rw [hok]; exact hown') hgrow hat)
      clear hown' hgrow hat HI9 HRW HNB hs9
      go_wp2_with (fail)
      go_roundw
      case rel => exact ⟨k + 1, by go_num, by omega, HI8⟩
      case measure => simp [intOf]; omega
    · obtain rfl : k = X.length := by omega
      have i2 : ¬ (X.length : Int) < X.length := by omega
      go_wp2_with (fail)
      go_ret
      refine ⟨_, rfl, ?_, HT.out⟩
      have h := HI.out.end (by rw [hok]; unfold maxLen; omega)
      rw [List.take_of_length_le (by omega)] at h
      exact h
set_option maxHeartbeats 8000000 in
theorem rval_ok (N T H : Int) (vl vo vx vb : Value) (L : List Is) (O : List Int) (X B P : List (Int × Int)) (w : World) (hl : Ix w vl L) (ho : Px w vo O) (hx : Vx w vx X) (hb : Vx w vb B) (htv : tvB N L O = true) (hXN : (X.length : Int) = N) (hBN : (B.length : Int) = N) (hvx : ∀ p ∈ X, VI p.1 p.2) (hvb : ∀ p ∈ B, VI p.1 p.2) (ht1 : -1048576 ≤ T) (ht2 : T ≤ 1048576) (h0 : 0 ≤ H) (h1 : H ≤ 1000000) (hP : imgT L O T H X B = P) (r : Bool) (hr : (bndB P && subB P B) = r) :
    Calls Try.prog 20 #[.agg #[.int .i64 N, vl, vo], vx, vb, .agg #[.int .i64 T, .int .i64 H]] w fun e w' => e = .returned (.bool r) ∧ Below w.heap.size w w' := by
  obtain ⟨hn1, hn6, h400, hon, hvl, hout⟩ := tv_cases htv
  have KI := Lib.hid (fun w a b c d => rimg_ok N T H vl vo vx vb L O X B P w a b c d htv hXN hBN hvx hvb ht1 ht2 h0 h1 hP)
  have hPl : P.length = X.length := by rw [← hP]; exact imgT_len htv hXN
  obtain ⟨b1, eb1⟩ : ∃ b, bndB P = b := ⟨_, rfl⟩
  obtain ⟨b2, eb2⟩ : ∃ b, subB P B = b := ⟨_, rfl⟩
  have KB := Lib.hid (fun va w a => rbnd_ok va P b1 w a (by omega) eb1)
  have KS := Lib.hid (fun va w a b => rsub_ok va vb P B b2 w a b (by omega) (by omega) eb2)
  rw [eb1, eb2] at hr
  have HRR := Lib.hid hr
  have hE : Below w.heap.size w ((w.alloc (.cells #[.int .i64 N, vl, vo] 25)).alloc (.cells #[.int .i64 T, .int .i64 H] 33)) := allocs_below [.cells #[.int .i64 N, vl, vo] 25, .cells #[.int .i64 T, .int .i64 H] 33] w
  have HC := Lib.hid (show Blk ((w.alloc (.cells #[.int .i64 N, vl, vo] 25)).alloc (.cells #[.int .i64 T, .int .i64 H] 33)) w.heap.size (.cells #[.int .i64 N, vl, vo] 25) from allocs_at [.cells #[.int .i64 N, vl, vo] 25, .cells #[.int .i64 T, .int .i64 H] 33] w 0 _ rfl)
  have HS := Lib.hid (show Blk ((w.alloc (.cells #[.int .i64 N, vl, vo] 25)).alloc (.cells #[.int .i64 T, .int .i64 H] 33)) (w.heap.size + 1) (.cells #[.int .i64 T, .int .i64 H] 33) from allocs_at [.cells #[.int .i64 N, vl, vo] 25, .cells #[.int .i64 T, .int .i64 H] 33] w 1 _ rfl)
  have HL := Lib.hid (hl.grow hE)
  have HO := Lib.hid (ho.grow hE)
  have HB := Lib.hid (hb.grow hE)
  have HX := Lib.hid (hx.grow hE)
  have HW := Lib.hid hE
  clear hl ho hx hb htv hXN hBN hvx hvb ht1 ht2 h0 h1 hP hn1 hn6 h400 hon hvl hout hE hPl eb1 eb2 hr
  have c0 := heapN_cellj HC.out (k := 0) rfl
  have c1 := heapN_cellj HC.out (k := 1) rfl
  have c2 := heapN_cellj HC.out (k := 2) rfl
  have s0 := heapN_cellj HS.out (k := 0) rfl
  have s1 := heapN_cellj HS.out (k := 1) rfl
  go_enter Try.func20, Try.ntmps20
  go_wp2_with (fail)
  refine (KI.out _ HL.out HO.out HX.out HB.out).mono ?_
  rintro e w1 ⟨u, rfl, hv, hB⟩
  have HV := Lib.hid hv
  have HB := Lib.hid (HB.out.grow hB)
  have HW := Lib.hid (below_then HW.out hB)
  clear hv hB c0 c1 c2 s0 s1 KI HL HO HX HC HS
  go_wp2_with (fail)
  refine (KB.out _ _ HV.out).mono ?_
  rintro e w2 ⟨rfl, hB⟩
  have HV := Lib.hid (HV.out.grow hB)
  have HB := Lib.hid (HB.out.grow hB)
  have HW := Lib.hid (below_then HW.out hB)
  clear hB KB
  cases b1 with
  | false =>
    go_wp2_with (fail)
    go_ret
    exact ⟨show Ending.returned (.bool false) = .returned (.bool r) from by rw [← HRR.out]; rfl, HW.out⟩
  | true =>
    go_wp2_with (fail)
    refine (KS.out _ _ HV.out HB.out).mono ?_
    rintro e w3 ⟨rfl, hB⟩
    have HW := Lib.hid (below_then HW.out hB)
    clear hB KS
    go_wp2_with (fail)
    go_ret
    exact ⟨show Ending.returned (.bool b2) = .returned (.bool r) from by rw [← HRR.out]; rfl, HW.out⟩
theorem inf_ent {l : List (Int × Int)} (h : bndB l = false) : bndB (infL l) = false := by
  unfold bndB at h ⊢
  rw [Bool.not_eq_false', List.any_eq_true] at h ⊢
  obtain ⟨p, hp, he⟩ := h
  refine ⟨infP p, List.mem_map.2 ⟨p, hp, rfl⟩, (entB_iff _).2 ?_⟩
  obtain ⟨h1, h2⟩ := (entB_iff _).1 he
  unfold infP
  rw [h1, h2]
  decide
theorem encG_unb (img : List (Int × Int) → List (Int × Int)) (n : Nat) {h : List (Int × Int)} (hb : bndB h = false) : encG img n h = none := by
  cases n with
  | zero => rfl
  | succ n =>
    unfold encG
    rw [inf_ent hb]
    rfl
theorem encG_b1 (img : List (Int × Int) → List (Int × Int)) (n : Nat) {h : List (Int × Int)} (hb : bndB (infL h) = false) : encG img (n + 1) h = none := by
  unfold encG
  rw [hb]
  rfl
theorem encG_b2 (img : List (Int × Int) → List (Int × Int)) (n : Nat) {h : List (Int × Int)} (hb : bndB (img (infL h)) = false) : encG img (n + 1) h = none := by
  unfold encG
  rw [hb, Bool.and_false]
  rfl
theorem encG_yes (img : List (Int × Int) → List (Int × Int)) (n : Nat) {h : List (Int × Int)} (h1 : bndB (infL h) = true) (h2 : bndB (img (infL h)) = true) (h3 : subB (img (infL h)) (infL h) = true) : encG img (n + 1) h = some (img (infL h)) := by
  unfold encG
  rw [h1, h2, h3]
  rfl
theorem encG_go (img : List (Int × Int) → List (Int × Int)) (n : Nat) {h : List (Int × Int)} (h1 : bndB (infL h) = true) (h2 : bndB (img (infL h)) = true) (h3 : subB (img (infL h)) (infL h) = false) : encG img (n + 1) h = encG img n (hulL (infL h) (img (infL h))) := by
  rw [encG, h1, h2, h3]
  rfl
set_option maxHeartbeats 32000000 in
theorem rencl_ok (N T H : Int) (vl vo vx : Value) (L : List Is) (O : List Int) (X : List (Int × Int)) (w : World) (hl : Ix w vl L) (ho : Px w vo O) (hx : Vx w vx X) (htv : tvB N L O = true) (hXN : (X.length : Int) = N) (hvx : ∀ p ∈ X, VI p.1 p.2) (ht1 : -1048576 ≤ T) (ht2 : T ≤ 1048576) (h0 : 0 ≤ H) (h1 : H ≤ 1000000) (r : Option (List (Int × Int))) (hr : encR (imgT L O T H X) X = r) :
    Calls Try.prog 15 #[.agg #[.int .i64 N, vl, vo], vx, .agg #[.int .i64 T, .int .i64 H]] w fun e w' => ∃ v, e = .returned (.tuple #[v, .bool r.isSome]) ∧ Vx w' v (r.getD []) ∧ Below w.heap.size w w' := by
  obtain ⟨hn1, hn6, h400, hon, hvl, hout⟩ := tv_cases htv
  have hX6 : X.length ≤ 6 := by omega
  have KI := Lib.hid (fun (vb : Value) (B : List (Int × Int)) (hBl : B.length = X.length) (hvb : ∀ p ∈ B, VI p.1 p.2) w a b c d => rimg_ok N T H vl vo vx vb L O X B (imgT L O T H X B) w a b c d htv hXN (by rw [hBl]; exact hXN) hvx hvb ht1 ht2 h0 h1 rfl)
  have him : ∀ B : List (Int × Int), B.length = X.length → (∀ p ∈ B, VI p.1 p.2) → (imgT L O T H X B).length = X.length ∧ ∀ p ∈ imgT L O T H X B, VI p.1 p.2 := fun B hBl hvb => ⟨imgT_len htv hXN, imgT_vi htv hvx hvb ht1 ht2 h0 h1⟩
  obtain ⟨img, eimg⟩ : ∃ f, imgT L O T H X = f := ⟨_, rfl⟩
  rw [eimg] at KI him hr
  have HIM := Lib.hid him
  have HRR := Lib.hid hr
  have HVX := Lib.hid hvx
  have KB := Lib.hid (fun va (l : List (Int × Int)) b (hl : l.length = X.length) (hb : bndB l = b) w a => rbnd_ok va l b w a (by omega) hb)
  have KS := Lib.hid (fun va vb (l m : List (Int × Int)) b (hl : l.length = X.length) (hm : m.length = X.length) (hb : subB l m = b) w a c => rsub_ok va vb l m b w a c (by omega) (by omega) hb)
  have KH := Lib.hid (fun va vb (l m : List (Int × Int)) (hl : l.length = X.length) (hm : m.length = X.length) w a b => rhull_ok va vb l m (hulL l m) w a b (by omega) (by omega) rfl)
  have KF := Lib.hid (fun va (l : List (Int × Int)) (hl : l.length = X.length) (hv : ∀ p ∈ l, VI p.1 p.2) w a => rinf_ok va l (infL l) w a (by omega) hv rfl)
  have hE : Below w.heap.size w ((w.alloc (.cells #[.int .i64 N, vl, vo] 25)).alloc (.cells #[.int .i64 T, .int .i64 H] 33)) := allocs_below [.cells #[.int .i64 N, vl, vo] 25, .cells #[.int .i64 T, .int .i64 H] 33] w
  have HC := Lib.hid (show Blk ((w.alloc (.cells #[.int .i64 N, vl, vo] 25)).alloc (.cells #[.int .i64 T, .int .i64 H] 33)) w.heap.size (.cells #[.int .i64 N, vl, vo] 25) from allocs_at [.cells #[.int .i64 N, vl, vo] 25, .cells #[.int .i64 T, .int .i64 H] 33] w 0 _ rfl)
  have HS := Lib.hid (show Blk ((w.alloc (.cells #[.int .i64 N, vl, vo] 25)).alloc (.cells #[.int .i64 T, .int .i64 H] 33)) (w.heap.size + 1) (.cells #[.int .i64 T, .int .i64 H] 33) from allocs_at [.cells #[.int .i64 N, vl, vo] 25, .cells #[.int .i64 T, .int .i64 H] 33] w 1 _ rfl)
  have HL := Lib.hid (hl.grow hE)
  have HO := Lib.hid (ho.grow hE)
  have HX := Lib.hid (hx.grow hE)
  have HW := Lib.hid hE
  clear hl ho hx htv hXN hvx ht1 ht2 h0 h1 hr hn1 hn6 h400 hon hvl hout hE eimg him
  have c0 := heapN_cellj HC.out (k := 0) rfl
  have c1 := heapN_cellj HC.out (k := 1) rfl
  have c2 := heapN_cellj HC.out (k := 2) rfl
  have s0 := heapN_cellj HS.out (k := 0) rfl
  have s1 := heapN_cellj HS.out (k := 1) rfl
  go_enter Try.func15, Try.ntmps15
  go_wp2_with (fail)
  refine (KI.out vx X rfl HVX.out _ HL.out HO.out HX.out HX.out).mono ?_
  rintro e w1 ⟨u1, rfl, hv, hB⟩
  have HC := Lib.hid (HC.out.grow hB)
  have HS := Lib.hid (HS.out.grow hB)
  have HL := Lib.hid (HL.out.grow hB)
  have HO := Lib.hid (HO.out.grow hB)
  have HX := Lib.hid (HX.out.grow hB)
  have HW := Lib.hid (below_then HW.out hB)
  have HV1 := Lib.hid hv
  obtain ⟨d1, d2⟩ := HIM.out X rfl HVX.out
  clear hB hv c0 c1 c2 s0 s1
  go_wp2_with (fail)
  refine (KH.out _ _ X (img X) rfl d1 _ HX.out HV1.out).mono ?_
  rintro e w2 ⟨u2, rfl, hv, hB⟩
  have HC := Lib.hid (HC.out.grow hB)
  have HS := Lib.hid (HS.out.grow hB)
  have HL := Lib.hid (HL.out.grow hB)
  have HO := Lib.hid (HO.out.grow hB)
  have HX := Lib.hid (HX.out.grow hB)
  have HW := Lib.hid (below_then HW.out hB)
  have HG0 := Lib.hid (show Vx w2 u2 (hulL X (img X)) ∧ (hulL X (img X)).length = X.length ∧ (∀ p ∈ hulL X (img X), VI p.1 p.2) ∧ encG img 8 (hulL X (img X)) = encR img X from ⟨hv, hulL_len d1, hul_vi HVX.out d2, rfl⟩)
  clear hB hv HV1 d1 d2
  go_wp2_with (fail)
  go_loopw [8, 9, 10] (fun b i d wr => ∃ (k : Nat) (h : List (Int × Int)), i = .int .i64 k ∧ k ≤ 8 ∧ Hid (Vx wr b h ∧ h.length = X.length ∧ (∀ p ∈ h, VI p.1 p.2) ∧ encG img (8 - k) h = encR img X) ∧ Hid (Below w2.heap.size w2 wr)) (fun b i d _ => 8 - (intOf i).toNat)
  case atStart => exact ⟨0, _, rfl, Nat.zero_le _, HG0, Lib.hid (Below.refl _ _)⟩
  case round =>
    clear HG0
    obtain ⟨k, h, rfl, hk, HG, HT⟩ := hrel
    have HC := Lib.hid (HC.out.grow HT.out)
    have HS := Lib.hid (HS.out.grow HT.out)
    have HL := Lib.hid (HL.out.grow HT.out)
    have HO := Lib.hid (HO.out.grow HT.out)
    have HX := Lib.hid (HX.out.grow HT.out)
    have HW := Lib.hid (below_then HW.out HT.out)
    have HV := Lib.hid HG.out.1
    have HLN := Lib.hid HG.out.2.1
    have HVH := Lib.hid HG.out.2.2.1
    have HEN := Lib.hid HG.out.2.2.2
    clear HG
    by_cases hlt : k < 8
    · have i2 : (k : Int) < 8 := by omega
      obtain ⟨m, hm, hm2⟩ : ∃ m, 8 - k = m + 1 ∧ 8 - (k + 1) = m := ⟨7 - k, by omega, by omega⟩
      rw [hm] at HEN
      obtain ⟨b0, eb0⟩ : ∃ b0, bndB h = b0 := ⟨_, rfl⟩
      go_wp2_with (fail)
      refine (KB.out _ h b0 HLN.out eb0 _ HV.out).mono ?_
      rintro e w3 ⟨rfl, hB⟩
      have HC := Lib.hid (HC.out.grow hB)
      have HS := Lib.hid (HS.out.grow hB)
      have HL := Lib.hid (HL.out.grow hB)
      have HO := Lib.hid (HO.out.grow hB)
      have HX := Lib.hid (HX.out.grow hB)
      have HV := Lib.hid (HV.out.grow hB)
      have HW := Lib.hid (below_then HW.out hB)
      have HT := Lib.hid (below_then HT.out hB)
      clear hB
      cases b0 with
      | false =>
        have hrn : r = none := by rw [← HRR.out, ← HEN.out]; exact encG_unb img _ eb0
        subst hrn
        go_wp2_with (fail)
        exact bodyPost_ret (v := .tuple #[.slice none 0 0, .bool false]) (by simp [results, Try.results15, go_sem]) rfl ⟨_, rfl, Rx.nil _ _ _, HW.out⟩
      | true =>
        go_wp2_with (fail)
        refine (KF.out _ h HLN.out HVH.out _ HV.out).mono ?_
        rintro e w3 ⟨u3, rfl, hv, hB⟩
        have HC := Lib.hid (HC.out.grow hB)
        have HS := Lib.hid (HS.out.grow hB)
        have HL := Lib.hid (HL.out.grow hB)
        have HO := Lib.hid (HO.out.grow hB)
        have HX := Lib.hid (HX.out.grow hB)
        have HW := Lib.hid (below_then HW.out hB)
        have HT := Lib.hid (below_then HT.out hB)
        have HV := Lib.hid hv
        have hl3 : (infL h).length = X.length := by rw [inf_len]; exact HLN.out
        have hv3 : ∀ p ∈ infL h, VI p.1 p.2 := fun p hp => by
          unfold infL at hp
          rw [List.mem_map] at hp
          obtain ⟨q, hq, rfl⟩ := hp
          exact infP_vi (HVH.out q hq)
        clear hv hB
        obtain ⟨b1, eb1⟩ : ∃ b1, bndB (infL h) = b1 := ⟨_, rfl⟩
        go_wp2_with (fail)
        refine (KB.out _ (infL h) b1 hl3 eb1 _ HV.out).mono ?_
        rintro e w3 ⟨rfl, hB⟩
        have HC := Lib.hid (HC.out.grow hB)
        have HS := Lib.hid (HS.out.grow hB)
        have HL := Lib.hid (HL.out.grow hB)
        have HO := Lib.hid (HO.out.grow hB)
        have HX := Lib.hid (HX.out.grow hB)
        have HV := Lib.hid (HV.out.grow hB)
        have HW := Lib.hid (below_then HW.out hB)
        have HT := Lib.hid (below_then HT.out hB)
        clear hB
        cases b1 with
        | false =>
          have hrn : r = none := by rw [← HRR.out, ← HEN.out]; exact encG_b1 img _ eb1
          subst hrn
          go_wp2_with (fail)
          exact bodyPost_ret (v := .tuple #[.slice none 0 0, .bool false]) (by simp [results, Try.results15, go_sem]) rfl ⟨_, rfl, Rx.nil _ _ _, HW.out⟩
        | true =>
          have c0 := heapN_cellj HC.out (k := 0) rfl
          have c1 := heapN_cellj HC.out (k := 1) rfl
          have c2 := heapN_cellj HC.out (k := 2) rfl
          have s0 := heapN_cellj HS.out (k := 0) rfl
          have s1 := heapN_cellj HS.out (k := 1) rfl
          go_wp2_with (fail)
          refine (KI.out _ (infL h) hl3 hv3 _ HL.out HO.out HX.out HV.out).mono ?_
          rintro e w3 ⟨u4, rfl, hv, hB⟩
          have HC := Lib.hid (HC.out.grow hB)
          have HS := Lib.hid (HS.out.grow hB)
          have HL := Lib.hid (HL.out.grow hB)
          have HO := Lib.hid (HO.out.grow hB)
          have HX := Lib.hid (HX.out.grow hB)
          have HV := Lib.hid (HV.out.grow hB)
          have HW := Lib.hid (below_then HW.out hB)
          have HT := Lib.hid (below_then HT.out hB)
          have HV4 := Lib.hid hv
          obtain ⟨hl4, hv4⟩ := HIM.out (infL h) hl3 hv3
          clear hv hB c0 c1 c2 s0 s1
          obtain ⟨b2, eb2⟩ : ∃ b2, bndB (img (infL h)) = b2 := ⟨_, rfl⟩
          go_wp2_with (fail)
          refine (KB.out _ (img (infL h)) b2 hl4 eb2 _ HV4.out).mono ?_
          rintro e w3 ⟨rfl, hB⟩
          have HC := Lib.hid (HC.out.grow hB)
          have HS := Lib.hid (HS.out.grow hB)
          have HL := Lib.hid (HL.out.grow hB)
          have HO := Lib.hid (HO.out.grow hB)
          have HX := Lib.hid (HX.out.grow hB)
          have HV := Lib.hid (HV.out.grow hB)
          have HV4 := Lib.hid (HV4.out.grow hB)
          have HW := Lib.hid (below_then HW.out hB)
          have HT := Lib.hid (below_then HT.out hB)
          clear hB
          cases b2 with
          | false =>
            have hrn : r = none := by rw [← HRR.out, ← HEN.out]; exact encG_b2 img _ eb2
            subst hrn
            go_wp2_with (fail)
            exact bodyPost_ret (v := .tuple #[.slice none 0 0, .bool false]) (by simp [results, Try.results15, go_sem]) rfl ⟨_, rfl, Rx.nil _ _ _, HW.out⟩
          | true =>
            obtain ⟨b3, eb3⟩ : ∃ b3, subB (img (infL h)) (infL h) = b3 := ⟨_, rfl⟩
            go_wp2_with (fail)
            refine (KS.out _ _ (img (infL h)) (infL h) b3 hl4 hl3 eb3 _ HV4.out HV.out).mono ?_
            rintro e w3 ⟨rfl, hB⟩
            have HC := Lib.hid (HC.out.grow hB)
            have HS := Lib.hid (HS.out.grow hB)
            have HL := Lib.hid (HL.out.grow hB)
            have HO := Lib.hid (HO.out.grow hB)
            have HX := Lib.hid (HX.out.grow hB)
            have HV := Lib.hid (HV.out.grow hB)
            have HV4 := Lib.hid (HV4.out.grow hB)
            have HW := Lib.hid (below_then HW.out hB)
            have HT := Lib.hid (below_then HT.out hB)
            clear hB
            cases b3 with
            | true =>
              have hrn : r = some (img (infL h)) := by rw [← HRR.out, ← HEN.out]; exact encG_yes img _ eb1 eb2 eb3
              subst hrn
              go_wp2_with (fail)
              exact bodyPost_ret (v := .tuple #[u4, .bool true]) (by simp [results, Try.results15, go_sem]) rfl ⟨_, rfl, HV4.out, HW.out⟩
            | false =>
              have hgo := encG_go img m eb1 eb2 eb3
              rw [HEN.out] at hgo
              go_wp2_with (fail)
              refine (KH.out _ _ (infL h) (img (infL h)) hl3 hl4 _ HV.out HV4.out).mono ?_
              rintro e w4 ⟨u5, rfl, hv, hB⟩
              have HC := Lib.hid (HC.out.grow hB)
              have HS := Lib.hid (HS.out.grow hB)
              have HL := Lib.hid (HL.out.grow hB)
              have HO := Lib.hid (HO.out.grow hB)
              have HX := Lib.hid (HX.out.grow hB)
              have HW := Lib.hid (below_then HW.out hB)
              have HT := Lib.hid (below_then HT.out hB)
              have HG5 := Lib.hid (show Vx w4 u5 (hulL (infL h) (img (infL h))) ∧ (hulL (infL h) (img (infL h))).length = X.length ∧ (∀ p ∈ hulL (infL h) (img (infL h)), VI p.1 p.2) ∧ encG img (8 - (k + 1)) (hulL (infL h) (img (infL h))) = encR img X from ⟨hv, by rw [hulL_len (by omega)]; exact hl3, hul_vi hv3 hv4, by rw [hm2]; exact hgo.symm⟩)
              clear hv hB hgo
              go_wp2_with (fail)
              go_roundw
              case rel => exact ⟨k + 1, _, by go_num, by omega, HG5, HT⟩
              case measure => simp [intOf]; omega
    · obtain rfl : k = 8 := by omega
      have i2 : ¬ ((8 : Nat) : Int) < 8 := by omega
      have hrn : r = none := by rw [← HRR.out, ← HEN.out]; rfl
      subst hrn
      go_wp2_with (fail)
      exact bodyPost_ret (v := .tuple #[.slice none 0 0, .bool false]) (by simp [results, Try.results15, go_sem]) rfl ⟨_, rfl, Rx.nil _ _ _, HW.out⟩
end Go.Proofs.Ytecmgiihacigaaa
