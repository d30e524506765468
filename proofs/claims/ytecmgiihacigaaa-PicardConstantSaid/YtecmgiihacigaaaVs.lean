/-
  The sanity of the laws over picard.
-/
import Derived.Test.YtecmgiihacigaaaVe
namespace Go.Proofs.Ytecmgiihacigaaa
open Go.ChangeShapes Go.WideShapes Go.ChangeAt Go.RowKit Go.Maps
set_option linter.unusedVariables false
set_option linter.unusedSimpArgs false
set_option maxRecDepth 100000
attribute [local irreducible] Calls
theorem sv_a : encR (imgT [⟨1, 0, 0, 65536, 65536⟩] [0] 0 65536 [(0, 0)]) [(0, 0)] = some [(0, 65536)] := by decide +kernel
theorem sv_b : encR (imgT [⟨2, 0, 0, 0, 0⟩] [0] 0 4096 [(65536, 65536)]) [(65536, 65536)] = some [(65536, 69924)] := by decide +kernel
theorem sv_c : encR (imgT [⟨2, 0, 0, 0, 0⟩, ⟨5, 0, 0, 0, 0⟩] [1] 0 65536 [(6553600, 6553600)]) [(6553600, 6553600)] = none := by decide +kernel
theorem sv_i : imgT [⟨2, 0, 0, 0, 0⟩] [0] 0 65536 [(65536, 65536)] [(65536, 131072)] = [(65536, 196608)] := by decide +kernel
theorem sv_v : (bndB (imgT [⟨2, 0, 0, 0, 0⟩] [0] 0 4096 [(65536, 65536)] [(65536, 70000)]) && subB (imgT [⟨2, 0, 0, 0, 0⟩] [0] 0 4096 [(65536, 65536)] [(65536, 70000)]) [(65536, 70000)]) = true := by decide +kernel
theorem sv_n : (bndB (imgT [⟨2, 0, 0, 0, 0⟩] [0] 0 4096 [(65536, 65536)] [(65536, 69000)]) && subB (imgT [⟨2, 0, 0, 0, 0⟩] [0] 0 4096 [(65536, 65536)] [(65536, 69000)]) [(65536, 69000)]) = false := by decide +kernel
theorem tv_n : tvB 1 [⟨1, 0, 0, 65536, 65536⟩] [0] = true := by decide +kernel
theorem tv_x : tvB 1 [⟨2, 0, 0, 0, 0⟩] [0] = true := by decide +kernel
theorem tv_q : tvB 1 [⟨2, 0, 0, 0, 0⟩, ⟨5, 0, 0, 0, 0⟩] [1] = true := by decide +kernel
theorem vi_one {a b : Int} (h : VI a b) : ∀ p ∈ [(a, b)], VI p.1 p.2 := by
  intro p hp
  rw [List.mem_singleton.1 hp]
  exact h
set_option maxHeartbeats 64000000 in
theorem sanity11 (w : World) : Calls Try.prog 11 #[] w fun e w' => e = .returned (.bool true) ∧ Below w.heap.size w w' := by
  have HW := Lib.hid (Below.refl w.heap.size w)
  go_enter Try.func11, Try.ntmps11
  go_wp2_with (fail)
  refine (point_at 65536 _ (by decide) (by decide)).mono ?_
  rintro e w1 ⟨rfl, hB⟩
  have HW := Lib.hid (below_then HW.out hB)
  clear hB
  have hE : Below w1.heap.size w1 ((((((((w1.alloc (.cells #[.int .i64 1, .int .i64 0, .int .i64 0, .int .i64 65536, .int .i64 65536] 62)).alloc (.cells #[.int .i64 0] 3)).alloc (.cells #[.int .i64 1, .slice (some ⟨w1.heap.size, 0, none⟩) 1 1, .slice (some ⟨w1.heap.size + 1, 0, none⟩) 1 1] 25)).alloc (.cells #[.int .i64 2, .int .i64 0, .int .i64 0, .int .i64 0, .int .i64 0] 62)).alloc (.cells #[.int .i64 0] 3)).alloc (.cells #[.int .i64 1, .slice (some ⟨w1.heap.size + 1 + 1 + 1, 0, none⟩) 1 1, .slice (some ⟨w1.heap.size + 1 + 1 + 1 + 1, 0, none⟩) 1 1] 25)).alloc (.cells #[.int .i64 0, .int .i64 65536] 33)).alloc (.cells #[.int .i64 0, .int .i64 4096] 33)) := allocs_below [.cells #[.int .i64 1, .int .i64 0, .int .i64 0, .int .i64 65536, .int .i64 65536] 62, .cells #[.int .i64 0] 3, .cells #[.int .i64 1, .slice (some ⟨w1.heap.size, 0, none⟩) 1 1, .slice (some ⟨w1.heap.size + 1, 0, none⟩) 1 1] 25, .cells #[.int .i64 2, .int .i64 0, .int .i64 0, .int .i64 0, .int .i64 0] 62, .cells #[.int .i64 0] 3, .cells #[.int .i64 1, .slice (some ⟨w1.heap.size + 1 + 1 + 1, 0, none⟩) 1 1, .slice (some ⟨w1.heap.size + 1 + 1 + 1 + 1, 0, none⟩) 1 1] 25, .cells #[.int .i64 0, .int .i64 65536] 33, .cells #[.int .i64 0, .int .i64 4096] 33] w1
  have BN : Hid (Blk ((((((((w1.alloc (.cells #[.int .i64 1, .int .i64 0, .int .i64 0, .int .i64 65536, .int .i64 65536] 62)).alloc (.cells #[.int .i64 0] 3)).alloc (.cells #[.int .i64 1, .slice (some ⟨w1.heap.size, 0, none⟩) 1 1, .slice (some ⟨w1.heap.size + 1, 0, none⟩) 1 1] 25)).alloc (.cells #[.int .i64 2, .int .i64 0, .int .i64 0, .int .i64 0, .int .i64 0] 62)).alloc (.cells #[.int .i64 0] 3)).alloc (.cells #[.int .i64 1, .slice (some ⟨w1.heap.size + 1 + 1 + 1, 0, none⟩) 1 1, .slice (some ⟨w1.heap.size + 1 + 1 + 1 + 1, 0, none⟩) 1 1] 25)).alloc (.cells #[.int .i64 0, .int .i64 65536] 33)).alloc (.cells #[.int .i64 0, .int .i64 4096] 33)) (w1.heap.size) (.cells #[.int .i64 1, .int .i64 0, .int .i64 0, .int .i64 65536, .int .i64 65536] 62)) := Lib.hid (allocs_at [.cells #[.int .i64 1, .int .i64 0, .int .i64 0, .int .i64 65536, .int .i64 65536] 62, .cells #[.int .i64 0] 3, .cells #[.int .i64 1, .slice (some ⟨w1.heap.size, 0, none⟩) 1 1, .slice (some ⟨w1.heap.size + 1, 0, none⟩) 1 1] 25, .cells #[.int .i64 2, .int .i64 0, .int .i64 0, .int .i64 0, .int .i64 0] 62, .cells #[.int .i64 0] 3, .cells #[.int .i64 1, .slice (some ⟨w1.heap.size + 1 + 1 + 1, 0, none⟩) 1 1, .slice (some ⟨w1.heap.size + 1 + 1 + 1 + 1, 0, none⟩) 1 1] 25, .cells #[.int .i64 0, .int .i64 65536] 33, .cells #[.int .i64 0, .int .i64 4096] 33] w1 0 _ rfl)
  have ON : Hid (Blk ((((((((w1.alloc (.cells #[.int .i64 1, .int .i64 0, .int .i64 0, .int .i64 65536, .int .i64 65536] 62)).alloc (.cells #[.int .i64 0] 3)).alloc (.cells #[.int .i64 1, .slice (some ⟨w1.heap.size, 0, none⟩) 1 1, .slice (some ⟨w1.heap.size + 1, 0, none⟩) 1 1] 25)).alloc (.cells #[.int .i64 2, .int .i64 0, .int .i64 0, .int .i64 0, .int .i64 0] 62)).alloc (.cells #[.int .i64 0] 3)).alloc (.cells #[.int .i64 1, .slice (some ⟨w1.heap.size + 1 + 1 + 1, 0, none⟩) 1 1, .slice (some ⟨w1.heap.size + 1 + 1 + 1 + 1, 0, none⟩) 1 1] 25)).alloc (.cells #[.int .i64 0, .int .i64 65536] 33)).alloc (.cells #[.int .i64 0, .int .i64 4096] 33)) (w1.heap.size + 1) (.cells #[.int .i64 0] 3)) := Lib.hid (allocs_at [.cells #[.int .i64 1, .int .i64 0, .int .i64 0, .int .i64 65536, .int .i64 65536] 62, .cells #[.int .i64 0] 3, .cells #[.int .i64 1, .slice (some ⟨w1.heap.size, 0, none⟩) 1 1, .slice (some ⟨w1.heap.size + 1, 0, none⟩) 1 1] 25, .cells #[.int .i64 2, .int .i64 0, .int .i64 0, .int .i64 0, .int .i64 0] 62, .cells #[.int .i64 0] 3, .cells #[.int .i64 1, .slice (some ⟨w1.heap.size + 1 + 1 + 1, 0, none⟩) 1 1, .slice (some ⟨w1.heap.size + 1 + 1 + 1 + 1, 0, none⟩) 1 1] 25, .cells #[.int .i64 0, .int .i64 65536] 33, .cells #[.int .i64 0, .int .i64 4096] 33] w1 1 _ rfl)
  have TN : Hid (Blk ((((((((w1.alloc (.cells #[.int .i64 1, .int .i64 0, .int .i64 0, .int .i64 65536, .int .i64 65536] 62)).alloc (.cells #[.int .i64 0] 3)).alloc (.cells #[.int .i64 1, .slice (some ⟨w1.heap.size, 0, none⟩) 1 1, .slice (some ⟨w1.heap.size + 1, 0, none⟩) 1 1] 25)).alloc (.cells #[.int .i64 2, .int .i64 0, .int .i64 0, .int .i64 0, .int .i64 0] 62)).alloc (.cells #[.int .i64 0] 3)).alloc (.cells #[.int .i64 1, .slice (some ⟨w1.heap.size + 1 + 1 + 1, 0, none⟩) 1 1, .slice (some ⟨w1.heap.size + 1 + 1 + 1 + 1, 0, none⟩) 1 1] 25)).alloc (.cells #[.int .i64 0, .int .i64 65536] 33)).alloc (.cells #[.int .i64 0, .int .i64 4096] 33)) (w1.heap.size + 1 + 1) (.cells #[.int .i64 1, .slice (some ⟨w1.heap.size, 0, none⟩) 1 1, .slice (some ⟨w1.heap.size + 1, 0, none⟩) 1 1] 25)) := Lib.hid (allocs_at [.cells #[.int .i64 1, .int .i64 0, .int .i64 0, .int .i64 65536, .int .i64 65536] 62, .cells #[.int .i64 0] 3, .cells #[.int .i64 1, .slice (some ⟨w1.heap.size, 0, none⟩) 1 1, .slice (some ⟨w1.heap.size + 1, 0, none⟩) 1 1] 25, .cells #[.int .i64 2, .int .i64 0, .int .i64 0, .int .i64 0, .int .i64 0] 62, .cells #[.int .i64 0] 3, .cells #[.int .i64 1, .slice (some ⟨w1.heap.size + 1 + 1 + 1, 0, none⟩) 1 1, .slice (some ⟨w1.heap.size + 1 + 1 + 1 + 1, 0, none⟩) 1 1] 25, .cells #[.int .i64 0, .int .i64 65536] 33, .cells #[.int .i64 0, .int .i64 4096] 33] w1 2 _ rfl)
  have BX : Hid (Blk ((((((((w1.alloc (.cells #[.int .i64 1, .int .i64 0, .int .i64 0, .int .i64 65536, .int .i64 65536] 62)).alloc (.cells #[.int .i64 0] 3)).alloc (.cells #[.int .i64 1, .slice (some ⟨w1.heap.size, 0, none⟩) 1 1, .slice (some ⟨w1.heap.size + 1, 0, none⟩) 1 1] 25)).alloc (.cells #[.int .i64 2, .int .i64 0, .int .i64 0, .int .i64 0, .int .i64 0] 62)).alloc (.cells #[.int .i64 0] 3)).alloc (.cells #[.int .i64 1, .slice (some ⟨w1.heap.size + 1 + 1 + 1, 0, none⟩) 1 1, .slice (some ⟨w1.heap.size + 1 + 1 + 1 + 1, 0, none⟩) 1 1] 25)).alloc (.cells #[.int .i64 0, .int .i64 65536] 33)).alloc (.cells #[.int .i64 0, .int .i64 4096] 33)) (w1.heap.size + 1 + 1 + 1) (.cells #[.int .i64 2, .int .i64 0, .int .i64 0, .int .i64 0, .int .i64 0] 62)) := Lib.hid (allocs_at [.cells #[.int .i64 1, .int .i64 0, .int .i64 0, .int .i64 65536, .int .i64 65536] 62, .cells #[.int .i64 0] 3, .cells #[.int .i64 1, .slice (some ⟨w1.heap.size, 0, none⟩) 1 1, .slice (some ⟨w1.heap.size + 1, 0, none⟩) 1 1] 25, .cells #[.int .i64 2, .int .i64 0, .int .i64 0, .int .i64 0, .int .i64 0] 62, .cells #[.int .i64 0] 3, .cells #[.int .i64 1, .slice (some ⟨w1.heap.size + 1 + 1 + 1, 0, none⟩) 1 1, .slice (some ⟨w1.heap.size + 1 + 1 + 1 + 1, 0, none⟩) 1 1] 25, .cells #[.int .i64 0, .int .i64 65536] 33, .cells #[.int .i64 0, .int .i64 4096] 33] w1 3 _ rfl)
  have OX : Hid (Blk ((((((((w1.alloc (.cells #[.int .i64 1, .int .i64 0, .int .i64 0, .int .i64 65536, .int .i64 65536] 62)).alloc (.cells #[.int .i64 0] 3)).alloc (.cells #[.int .i64 1, .slice (some ⟨w1.heap.size, 0, none⟩) 1 1, .slice (some ⟨w1.heap.size + 1, 0, none⟩) 1 1] 25)).alloc (.cells #[.int .i64 2, .int .i64 0, .int .i64 0, .int .i64 0, .int .i64 0] 62)).alloc (.cells #[.int .i64 0] 3)).alloc (.cells #[.int .i64 1, .slice (some ⟨w1.heap.size + 1 + 1 + 1, 0, none⟩) 1 1, .slice (some ⟨w1.heap.size + 1 + 1 + 1 + 1, 0, none⟩) 1 1] 25)).alloc (.cells #[.int .i64 0, .int .i64 65536] 33)).alloc (.cells #[.int .i64 0, .int .i64 4096] 33)) (w1.heap.size + 1 + 1 + 1 + 1) (.cells #[.int .i64 0] 3)) := Lib.hid (allocs_at [.cells #[.int .i64 1, .int .i64 0, .int .i64 0, .int .i64 65536, .int .i64 65536] 62, .cells #[.int .i64 0] 3, .cells #[.int .i64 1, .slice (some ⟨w1.heap.size, 0, none⟩) 1 1, .slice (some ⟨w1.heap.size + 1, 0, none⟩) 1 1] 25, .cells #[.int .i64 2, .int .i64 0, .int .i64 0, .int .i64 0, .int .i64 0] 62, .cells #[.int .i64 0] 3, .cells #[.int .i64 1, .slice (some ⟨w1.heap.size + 1 + 1 + 1, 0, none⟩) 1 1, .slice (some ⟨w1.heap.size + 1 + 1 + 1 + 1, 0, none⟩) 1 1] 25, .cells #[.int .i64 0, .int .i64 65536] 33, .cells #[.int .i64 0, .int .i64 4096] 33] w1 4 _ rfl)
  have TX : Hid (Blk ((((((((w1.alloc (.cells #[.int .i64 1, .int .i64 0, .int .i64 0, .int .i64 65536, .int .i64 65536] 62)).alloc (.cells #[.int .i64 0] 3)).alloc (.cells #[.int .i64 1, .slice (some ⟨w1.heap.size, 0, none⟩) 1 1, .slice (some ⟨w1.heap.size + 1, 0, none⟩) 1 1] 25)).alloc (.cells #[.int .i64 2, .int .i64 0, .int .i64 0, .int .i64 0, .int .i64 0] 62)).alloc (.cells #[.int .i64 0] 3)).alloc (.cells #[.int .i64 1, .slice (some ⟨w1.heap.size + 1 + 1 + 1, 0, none⟩) 1 1, .slice (some ⟨w1.heap.size + 1 + 1 + 1 + 1, 0, none⟩) 1 1] 25)).alloc (.cells #[.int .i64 0, .int .i64 65536] 33)).alloc (.cells #[.int .i64 0, .int .i64 4096] 33)) (w1.heap.size + 1 + 1 + 1 + 1 + 1) (.cells #[.int .i64 1, .slice (some ⟨w1.heap.size + 1 + 1 + 1, 0, none⟩) 1 1, .slice (some ⟨w1.heap.size + 1 + 1 + 1 + 1, 0, none⟩) 1 1] 25)) := Lib.hid (allocs_at [.cells #[.int .i64 1, .int .i64 0, .int .i64 0, .int .i64 65536, .int .i64 65536] 62, .cells #[.int .i64 0] 3, .cells #[.int .i64 1, .slice (some ⟨w1.heap.size, 0, none⟩) 1 1, .slice (some ⟨w1.heap.size + 1, 0, none⟩) 1 1] 25, .cells #[.int .i64 2, .int .i64 0, .int .i64 0, .int .i64 0, .int .i64 0] 62, .cells #[.int .i64 0] 3, .cells #[.int .i64 1, .slice (some ⟨w1.heap.size + 1 + 1 + 1, 0, none⟩) 1 1, .slice (some ⟨w1.heap.size + 1 + 1 + 1 + 1, 0, none⟩) 1 1] 25, .cells #[.int .i64 0, .int .i64 65536] 33, .cells #[.int .i64 0, .int .i64 4096] 33] w1 5 _ rfl)
  have SG : Hid (Blk ((((((((w1.alloc (.cells #[.int .i64 1, .int .i64 0, .int .i64 0, .int .i64 65536, .int .i64 65536] 62)).alloc (.cells #[.int .i64 0] 3)).alloc (.cells #[.int .i64 1, .slice (some ⟨w1.heap.size, 0, none⟩) 1 1, .slice (some ⟨w1.heap.size + 1, 0, none⟩) 1 1] 25)).alloc (.cells #[.int .i64 2, .int .i64 0, .int .i64 0, .int .i64 0, .int .i64 0] 62)).alloc (.cells #[.int .i64 0] 3)).alloc (.cells #[.int .i64 1, .slice (some ⟨w1.heap.size + 1 + 1 + 1, 0, none⟩) 1 1, .slice (some ⟨w1.heap.size + 1 + 1 + 1 + 1, 0, none⟩) 1 1] 25)).alloc (.cells #[.int .i64 0, .int .i64 65536] 33)).alloc (.cells #[.int .i64 0, .int .i64 4096] 33)) (w1.heap.size + 1 + 1 + 1 + 1 + 1 + 1) (.cells #[.int .i64 0, .int .i64 65536] 33)) := Lib.hid (allocs_at [.cells #[.int .i64 1, .int .i64 0, .int .i64 0, .int .i64 65536, .int .i64 65536] 62, .cells #[.int .i64 0] 3, .cells #[.int .i64 1, .slice (some ⟨w1.heap.size, 0, none⟩) 1 1, .slice (some ⟨w1.heap.size + 1, 0, none⟩) 1 1] 25, .cells #[.int .i64 2, .int .i64 0, .int .i64 0, .int .i64 0, .int .i64 0] 62, .cells #[.int .i64 0] 3, .cells #[.int .i64 1, .slice (some ⟨w1.heap.size + 1 + 1 + 1, 0, none⟩) 1 1, .slice (some ⟨w1.heap.size + 1 + 1 + 1 + 1, 0, none⟩) 1 1] 25, .cells #[.int .i64 0, .int .i64 65536] 33, .cells #[.int .i64 0, .int .i64 4096] 33] w1 6 _ rfl)
  have SH : Hid (Blk ((((((((w1.alloc (.cells #[.int .i64 1, .int .i64 0, .int .i64 0, .int .i64 65536, .int .i64 65536] 62)).alloc (.cells #[.int .i64 0] 3)).alloc (.cells #[.int .i64 1, .slice (some ⟨w1.heap.size, 0, none⟩) 1 1, .slice (some ⟨w1.heap.size + 1, 0, none⟩) 1 1] 25)).alloc (.cells #[.int .i64 2, .int .i64 0, .int .i64 0, .int .i64 0, .int .i64 0] 62)).alloc (.cells #[.int .i64 0] 3)).alloc (.cells #[.int .i64 1, .slice (some ⟨w1.heap.size + 1 + 1 + 1, 0, none⟩) 1 1, .slice (some ⟨w1.heap.size + 1 + 1 + 1 + 1, 0, none⟩) 1 1] 25)).alloc (.cells #[.int .i64 0, .int .i64 65536] 33)).alloc (.cells #[.int .i64 0, .int .i64 4096] 33)) (w1.heap.size + 1 + 1 + 1 + 1 + 1 + 1 + 1) (.cells #[.int .i64 0, .int .i64 4096] 33)) := Lib.hid (allocs_at [.cells #[.int .i64 1, .int .i64 0, .int .i64 0, .int .i64 65536, .int .i64 65536] 62, .cells #[.int .i64 0] 3, .cells #[.int .i64 1, .slice (some ⟨w1.heap.size, 0, none⟩) 1 1, .slice (some ⟨w1.heap.size + 1, 0, none⟩) 1 1] 25, .cells #[.int .i64 2, .int .i64 0, .int .i64 0, .int .i64 0, .int .i64 0] 62, .cells #[.int .i64 0] 3, .cells #[.int .i64 1, .slice (some ⟨w1.heap.size + 1 + 1 + 1, 0, none⟩) 1 1, .slice (some ⟨w1.heap.size + 1 + 1 + 1 + 1, 0, none⟩) 1 1] 25, .cells #[.int .i64 0, .int .i64 65536] 33, .cells #[.int .i64 0, .int .i64 4096] 33] w1 7 _ rfl)
  have HW := Lib.hid (below_then HW.out hE)
  clear hE
  have IN := Lib.hid (rx_blk (n := 1) (l := [⟨1, 0, 0, 65536, 65536⟩]) encI_len BN.out rfl rfl (by decide))
  have PN := Lib.hid (rx_blk (n := 1) (enc := enc1) (l := [0]) (fun _ => rfl) ON.out rfl rfl (by decide))
  have IX := Lib.hid (rx_blk (n := 1) (l := [⟨2, 0, 0, 0, 0⟩]) encI_len BX.out rfl rfl (by decide))
  have PX := Lib.hid (rx_blk (n := 1) (enc := enc1) (l := [0]) (fun _ => rfl) OX.out rfl rfl (by decide))
  clear BN ON BX OX
  go_wp2_with (fail)
  refine (point_at 65536 _ (by decide) (by decide)).mono ?_
  rintro e w2 ⟨rfl, hB⟩
  have TN := Lib.hid (TN.out.grow hB)
  have TX := Lib.hid (TX.out.grow hB)
  have SG := Lib.hid (SG.out.grow hB)
  have SH := Lib.hid (SH.out.grow hB)
  have IN := Lib.hid (IN.out.grow hB)
  have PN := Lib.hid (PN.out.grow hB)
  have IX := Lib.hid (IX.out.grow hB)
  have PX := Lib.hid (PX.out.grow hB)
  have HW := Lib.hid (below_then HW.out hB)
  clear hB
  have hE : Below w2.heap.size w2 (w2.alloc (.cells #[.int .i64 65536, .int .i64 65536] 45)) := allocs_below [.cells #[.int .i64 65536, .int .i64 65536] 45] w2
  have BS : Hid (Blk (w2.alloc (.cells #[.int .i64 65536, .int .i64 65536] 45)) (w2.heap.size) (.cells #[.int .i64 65536, .int .i64 65536] 45)) := Lib.hid (allocs_at [.cells #[.int .i64 65536, .int .i64 65536] 45] w2 0 _ rfl)
  have TN := Lib.hid (TN.out.grow hE)
  have TX := Lib.hid (TX.out.grow hE)
  have SG := Lib.hid (SG.out.grow hE)
  have SH := Lib.hid (SH.out.grow hE)
  have IN := Lib.hid (IN.out.grow hE)
  have PN := Lib.hid (PN.out.grow hE)
  have IX := Lib.hid (IX.out.grow hE)
  have PX := Lib.hid (PX.out.grow hE)
  have HW := Lib.hid (below_then HW.out hE)
  clear hE
  have VS := Lib.hid (rx_blk (n := 1) (l := [(65536, 65536)]) encB_len BS.out rfl rfl (by decide))
  clear BS
  go_wp2_with (fail)
  generalize hWW : World.alloc w2 _ = W5 at *
  clear hWW
  have k0 := fun g : Grown W5 => heapN_cellj (TN.out.grow g.h) (k := 0) rfl
  have k1 := fun g : Grown W5 => heapN_cellj (TN.out.grow g.h) (k := 1) rfl
  have k2 := fun g : Grown W5 => heapN_cellj (TN.out.grow g.h) (k := 2) rfl
  have h0 := fun g : Grown W5 => heapN_cellj (SG.out.grow g.h) (k := 0) rfl
  have h1 := fun g : Grown W5 => heapN_cellj (SG.out.grow g.h) (k := 1) rfl
  refine region_pred (lk [(28, fun z_ _ => z_ = .agg #[.int .i64 1, .slice (some ⟨w1.heap.size, 0, none⟩) 1 1, .slice (some ⟨w1.heap.size + 1, 0, none⟩) 1 1]), (29, fun z_ _ => z_ = .agg #[.int .i64 0, .int .i64 0]), (30, fun z_ w' => Vx w' z_ [(0, 0)]), (31, fun z_ _ => z_ = .agg #[.int .i64 0, .int .i64 65536]), (32, fun z_ w' => ∃ y_, z_ = .tuple #[y_, .bool true] ∧ Vx w' y_ [(0, 65536)]), (27, fun z_ w' => ∃ y_, z_ = .tuple #[y_, .bool true] ∧ Vx w' y_ [(0, 65536)]), (33, fun z_ w' => Vx w' z_ [(0, 65536)]), (34, fun z_ _ => z_ = .bool true), (6, fun z_ w' => Vx w' z_ [(0, 65536)]), (7, fun z_ _ => z_ = .bool true)]) (by kernel_rfl) (by kernel_rfl) (lk_steady _ ⟨steady_eq _, steady_eq _, fun u w1 w2 hb h => h.grow hb, steady_eq _, fun u w1 w2 hb ⟨y, e, h⟩ => ⟨y, e, h.grow hb⟩, fun u w1 w2 hb ⟨y, e, h⟩ => ⟨y, e, h.grow hb⟩, fun u w1 w2 hb h => h.grow hb, steady_eq _, fun u w1 w2 hb h => h.grow hb, steady_eq _, trivial⟩) ?_ ?_
  · refine ⟨?_, ?_, ?_, ?_, ?_, ?_, ?_, ?_, ?_, ?_, trivial⟩
    · refine ob_plain [1] rfl rfl fun aa g h => ?_
      have yy0 := seen_out (v := .pointer (some ⟨w1.heap.size + 1 + 1, 0, none⟩)) rfl rfl h.1
      have ee0 := getD_of yy0
      exact tupon_value (v := .agg #[.int .i64 1, .slice (some ⟨w1.heap.size, 0, none⟩) 1 1, .slice (some ⟨w1.heap.size + 1, 0, none⟩) 1 1]) (by simp [go_sem, ee0, yy0, k0 g, k1 g, k2 g]) (Below.refl _ _) rfl
    · refine ob_plain [] rfl rfl fun aa g h => ?_
      refine tupon_enter (f := 24) (args := #[.int .i64 0]) (by simp [go_sem]) rfl ?_
      exact (point_at 0 g.w (by decide) (by decide)).mono fun e w' ⟨he, hB⟩ => ⟨_, he, hB, rfl⟩
    · refine ob_plain [29] rfl rfl fun aa g h => ?_
      obtain ⟨_, yy0, rfl⟩ := seen_in rfl h.1
      have ee0 := getD_of yy0
      exact tupon_value (v := _) (w1 := g.w.alloc (.cells #[.int .i64 0, .int .i64 0] 45)) (by simp [go_sem, ee0, yy0]) ((Below.refl _ _).alloc (Nat.le_refl _) _) (rx_blk (n := 1) (l := [(0, 0)]) encB_len (World.alloc_heap_new g.w _) rfl rfl (by decide))
    · refine ob_plain [3] rfl rfl fun aa g h => ?_
      have yy0 := seen_out (v := .pointer (some ⟨w1.heap.size + 1 + 1 + 1 + 1 + 1 + 1, 0, none⟩)) rfl rfl h.1
      have ee0 := getD_of yy0
      exact tupon_value (v := .agg #[.int .i64 0, .int .i64 65536]) (by simp [go_sem, ee0, yy0, h0 g, h1 g]) (Below.refl _ _) rfl
    · refine ob_plain [28, 30, 31] rfl rfl fun aa g h => ?_
      obtain ⟨_, yy0, rfl⟩ := seen_in rfl h.1
      have ee0 := getD_of yy0
      obtain ⟨z30, yy1, hv30⟩ := seen_in rfl h.2.1
      have ee1 := getD_of yy1
      obtain ⟨_, yy2, rfl⟩ := seen_in rfl h.2.2.1
      have ee2 := getD_of yy2
      refine tupon_enter (f := 14) (args := #[.agg #[.int .i64 1, .slice (some ⟨w1.heap.size, 0, none⟩) 1 1, .slice (some ⟨w1.heap.size + 1, 0, none⟩) 1 1], z30, .agg #[.int .i64 0, .int .i64 65536]]) (by simp [go_sem, ee0, yy0, ee1, yy1, ee2, yy2]) rfl ?_
      exact (encl_ok 1 0 65536 _ _ z30 [⟨1, 0, 0, 65536, 65536⟩] [0] [(0, 0)] g.w (IN.out.grow g.h) (PN.out.grow g.h) hv30 tv_n rfl (vi_one (by decide)) (by decide) (by decide) (by decide) (by decide) (some [(0, 65536)]) sv_a).mono fun e w' ⟨u9, he, hv, hB⟩ => ⟨_, he, hB, ⟨u9, rfl, hv⟩⟩
    · refine ob_plain [32] rfl rfl fun aa g h => ?_
      obtain ⟨_, yy0, ⟨y32, rfl, hv32⟩⟩ := seen_in rfl h.1
      have ee0 := getD_of yy0
      exact tupon_value (v := .tuple #[y32, .bool true]) (by simp [go_sem, ee0, yy0]) (Below.refl _ _) ⟨_, rfl, hv32⟩
    · refine ob_plain [27] rfl rfl fun aa g h => ?_
      obtain ⟨_, yy0, ⟨y27, rfl, hv27⟩⟩ := seen_in rfl h.1
      have ee0 := getD_of yy0
      exact tupon_value (v := y27) (by simp [go_sem, ee0, yy0]) (Below.refl _ _) hv27
    · refine ob_plain [27] rfl rfl fun aa g h => ?_
      obtain ⟨_, yy0, ⟨y27, rfl, hv27⟩⟩ := seen_in rfl h.1
      have ee0 := getD_of yy0
      exact tupon_value (v := .bool true) (by simp [go_sem, ee0, yy0]) (Below.refl _ _) rfl
    · refine ob_plain [33] rfl rfl fun aa g h => ?_
      obtain ⟨z33, yy0, hv33⟩ := seen_in rfl h.1
      have ee0 := getD_of yy0
      exact tupon_value (v := z33) (by simp [go_sem, ee0, yy0]) (Below.refl _ _) hv33
    · refine ob_plain [34] rfl rfl fun aa g h => ?_
      obtain ⟨_, yy0, rfl⟩ := seen_in rfl h.1
      have ee0 := getD_of yy0
      exact tupon_value (v := .bool true) (by simp [go_sem, ee0, yy0]) (Below.refl _ _) rfl
  rintro w3 hB _ rfl _ rfl z30 hv30 _ rfl _ ⟨y32, rfl, hv32⟩ _ ⟨y27, rfl, hv27⟩ z33 hv33 _ rfl z6 hv6 _ rfl
  simp only [Act.put, List.setIfInBounds_toArray, List.set_cons_succ, List.set_cons_zero, List.filterMap_nil, finP]
  clear k0 k1 k2 h0 h1 hv30 hv32 hv27 hv33
  have TN := Lib.hid (TN.out.grow hB)
  have TX := Lib.hid (TX.out.grow hB)
  have SG := Lib.hid (SG.out.grow hB)
  have SH := Lib.hid (SH.out.grow hB)
  have IN := Lib.hid (IN.out.grow hB)
  have PN := Lib.hid (PN.out.grow hB)
  have IX := Lib.hid (IX.out.grow hB)
  have PX := Lib.hid (PX.out.grow hB)
  have VS := Lib.hid (VS.out.grow hB)
  have HW := Lib.hid (below_then HW.out hB)
  clear hB
  obtain ⟨p6, c6, rfl⟩ : ∃ p c, z6 = .slice p 1 c := hv6.cut
  have VA := Lib.hid hv6
  clear hv6
  have t0 := heapN_cellj TX.out (k := 0) rfl
  have t1 := heapN_cellj TX.out (k := 1) rfl
  have t2 := heapN_cellj TX.out (k := 2) rfl
  have s0 := heapN_cellj SH.out (k := 0) rfl
  have s1 := heapN_cellj SH.out (k := 1) rfl
  go_wp2_with (fail)
  refine (encl_ok 1 0 4096 _ _ _ [⟨2, 0, 0, 0, 0⟩] [0] [(65536, 65536)] _ IX.out PX.out VS.out tv_x rfl (vi_one (by decide)) (by decide) (by decide) (by decide) (by decide) (some [(65536, 69924)]) sv_b).mono ?_
  rintro e w4 ⟨u9, rfl, hv, hB⟩
  have TN := Lib.hid (TN.out.grow hB)
  have TX := Lib.hid (TX.out.grow hB)
  have SG := Lib.hid (SG.out.grow hB)
  have SH := Lib.hid (SH.out.grow hB)
  have IN := Lib.hid (IN.out.grow hB)
  have PN := Lib.hid (PN.out.grow hB)
  have IX := Lib.hid (IX.out.grow hB)
  have PX := Lib.hid (PX.out.grow hB)
  have VS := Lib.hid (VS.out.grow hB)
  have VA := Lib.hid (VA.out.grow hB)
  have HW := Lib.hid (below_then HW.out hB)
  clear hB
  obtain ⟨p8, c8, rfl⟩ : ∃ p c, u9 = .slice p 1 c := hv.cut
  have VB := Lib.hid hv
  clear hv t0 t1 t2 s0 s1
  simp only [Option.isSome_some]
  have hE : Below w4.heap.size w4 (((w4.alloc (.cells #[.int .i64 2, .int .i64 0, .int .i64 0, .int .i64 0, .int .i64 0, .int .i64 5, .int .i64 0, .int .i64 0, .int .i64 0, .int .i64 0] 62)).alloc (.cells #[.int .i64 1] 3)).alloc (.cells #[.int .i64 1, .slice (some ⟨w4.heap.size, 0, none⟩) 2 2, .slice (some ⟨w4.heap.size + 1, 0, none⟩) 1 1] 25)) := allocs_below [.cells #[.int .i64 2, .int .i64 0, .int .i64 0, .int .i64 0, .int .i64 0, .int .i64 5, .int .i64 0, .int .i64 0, .int .i64 0, .int .i64 0] 62, .cells #[.int .i64 1] 3, .cells #[.int .i64 1, .slice (some ⟨w4.heap.size, 0, none⟩) 2 2, .slice (some ⟨w4.heap.size + 1, 0, none⟩) 1 1] 25] w4
  have BQ : Hid (Blk (((w4.alloc (.cells #[.int .i64 2, .int .i64 0, .int .i64 0, .int .i64 0, .int .i64 0, .int .i64 5, .int .i64 0, .int .i64 0, .int .i64 0, .int .i64 0] 62)).alloc (.cells #[.int .i64 1] 3)).alloc (.cells #[.int .i64 1, .slice (some ⟨w4.heap.size, 0, none⟩) 2 2, .slice (some ⟨w4.heap.size + 1, 0, none⟩) 1 1] 25)) (w4.heap.size) (.cells #[.int .i64 2, .int .i64 0, .int .i64 0, .int .i64 0, .int .i64 0, .int .i64 5, .int .i64 0, .int .i64 0, .int .i64 0, .int .i64 0] 62)) := Lib.hid (allocs_at [.cells #[.int .i64 2, .int .i64 0, .int .i64 0, .int .i64 0, .int .i64 0, .int .i64 5, .int .i64 0, .int .i64 0, .int .i64 0, .int .i64 0] 62, .cells #[.int .i64 1] 3, .cells #[.int .i64 1, .slice (some ⟨w4.heap.size, 0, none⟩) 2 2, .slice (some ⟨w4.heap.size + 1, 0, none⟩) 1 1] 25] w4 0 _ rfl)
  have OQ : Hid (Blk (((w4.alloc (.cells #[.int .i64 2, .int .i64 0, .int .i64 0, .int .i64 0, .int .i64 0, .int .i64 5, .int .i64 0, .int .i64 0, .int .i64 0, .int .i64 0] 62)).alloc (.cells #[.int .i64 1] 3)).alloc (.cells #[.int .i64 1, .slice (some ⟨w4.heap.size, 0, none⟩) 2 2, .slice (some ⟨w4.heap.size + 1, 0, none⟩) 1 1] 25)) (w4.heap.size + 1) (.cells #[.int .i64 1] 3)) := Lib.hid (allocs_at [.cells #[.int .i64 2, .int .i64 0, .int .i64 0, .int .i64 0, .int .i64 0, .int .i64 5, .int .i64 0, .int .i64 0, .int .i64 0, .int .i64 0] 62, .cells #[.int .i64 1] 3, .cells #[.int .i64 1, .slice (some ⟨w4.heap.size, 0, none⟩) 2 2, .slice (some ⟨w4.heap.size + 1, 0, none⟩) 1 1] 25] w4 1 _ rfl)
  have TQ : Hid (Blk (((w4.alloc (.cells #[.int .i64 2, .int .i64 0, .int .i64 0, .int .i64 0, .int .i64 0, .int .i64 5, .int .i64 0, .int .i64 0, .int .i64 0, .int .i64 0] 62)).alloc (.cells #[.int .i64 1] 3)).alloc (.cells #[.int .i64 1, .slice (some ⟨w4.heap.size, 0, none⟩) 2 2, .slice (some ⟨w4.heap.size + 1, 0, none⟩) 1 1] 25)) (w4.heap.size + 1 + 1) (.cells #[.int .i64 1, .slice (some ⟨w4.heap.size, 0, none⟩) 2 2, .slice (some ⟨w4.heap.size + 1, 0, none⟩) 1 1] 25)) := Lib.hid (allocs_at [.cells #[.int .i64 2, .int .i64 0, .int .i64 0, .int .i64 0, .int .i64 0, .int .i64 5, .int .i64 0, .int .i64 0, .int .i64 0, .int .i64 0] 62, .cells #[.int .i64 1] 3, .cells #[.int .i64 1, .slice (some ⟨w4.heap.size, 0, none⟩) 2 2, .slice (some ⟨w4.heap.size + 1, 0, none⟩) 1 1] 25] w4 2 _ rfl)
  have TN := Lib.hid (TN.out.grow hE)
  have TX := Lib.hid (TX.out.grow hE)
  have SG := Lib.hid (SG.out.grow hE)
  have SH := Lib.hid (SH.out.grow hE)
  have IN := Lib.hid (IN.out.grow hE)
  have PN := Lib.hid (PN.out.grow hE)
  have IX := Lib.hid (IX.out.grow hE)
  have PX := Lib.hid (PX.out.grow hE)
  have VS := Lib.hid (VS.out.grow hE)
  have VA := Lib.hid (VA.out.grow hE)
  have VB := Lib.hid (VB.out.grow hE)
  have HW := Lib.hid (below_then HW.out hE)
  clear hE
  have IQ := Lib.hid (rx_blk (n := 2) (l := [⟨2, 0, 0, 0, 0⟩, ⟨5, 0, 0, 0, 0⟩]) encI_len BQ.out rfl rfl (by decide))
  have PQ := Lib.hid (rx_blk (n := 1) (enc := enc1) (l := [1]) (fun _ => rfl) OQ.out rfl rfl (by decide))
  clear BQ OQ
  go_wp2_with (fail)
  generalize hWW : World.alloc (World.alloc (World.alloc w4 _) _) _ = W6 at *
  clear hWW
  have k0 := fun g : Grown W6 => heapN_cellj (TQ.out.grow g.h) (k := 0) rfl
  have k1 := fun g : Grown W6 => heapN_cellj (TQ.out.grow g.h) (k := 1) rfl
  have k2 := fun g : Grown W6 => heapN_cellj (TQ.out.grow g.h) (k := 2) rfl
  have h0 := fun g : Grown W6 => heapN_cellj (SG.out.grow g.h) (k := 0) rfl
  have h1 := fun g : Grown W6 => heapN_cellj (SG.out.grow g.h) (k := 1) rfl
  refine region_pred (lk [(48, fun z_ _ => z_ = .agg #[.int .i64 1, .slice (some ⟨w4.heap.size, 0, none⟩) 2 2, .slice (some ⟨w4.heap.size + 1, 0, none⟩) 1 1]), (49, fun z_ _ => z_ = .agg #[.int .i64 6553600, .int .i64 6553600]), (50, fun z_ w' => Vx w' z_ [(6553600, 6553600)]), (51, fun z_ _ => z_ = .agg #[.int .i64 0, .int .i64 65536]), (52, fun z_ w' => ∃ y_, z_ = .tuple #[y_, .bool false] ∧ Vx w' y_ []), (47, fun z_ w' => ∃ y_, z_ = .tuple #[y_, .bool false] ∧ Vx w' y_ []), (53, fun z_ w' => Vx w' z_ []), (54, fun z_ _ => z_ = .bool false), (11, fun z_ w' => Vx w' z_ []), (12, fun z_ _ => z_ = .bool false)]) (by kernel_rfl) (by kernel_rfl) (lk_steady _ ⟨steady_eq _, steady_eq _, fun u w1 w2 hb h => h.grow hb, steady_eq _, fun u w1 w2 hb ⟨y, e, h⟩ => ⟨y, e, h.grow hb⟩, fun u w1 w2 hb ⟨y, e, h⟩ => ⟨y, e, h.grow hb⟩, fun u w1 w2 hb h => h.grow hb, steady_eq _, fun u w1 w2 hb h => h.grow hb, steady_eq _, trivial⟩) ?_ ?_
  · refine ⟨?_, ?_, ?_, ?_, ?_, ?_, ?_, ?_, ?_, ?_, trivial⟩
    · refine ob_plain [10] rfl rfl fun aa g h => ?_
      have yy0 := seen_out (v := .pointer (some ⟨w4.heap.size + 1 + 1, 0, none⟩)) rfl rfl h.1
      have ee0 := getD_of yy0
      exact tupon_value (v := .agg #[.int .i64 1, .slice (some ⟨w4.heap.size, 0, none⟩) 2 2, .slice (some ⟨w4.heap.size + 1, 0, none⟩) 1 1]) (by simp [go_sem, ee0, yy0, k0 g, k1 g, k2 g]) (Below.refl _ _) rfl
    · refine ob_plain [] rfl rfl fun aa g h => ?_
      refine tupon_enter (f := 24) (args := #[.int .i64 6553600]) (by simp [go_sem]) rfl ?_
      exact (point_at 6553600 g.w (by decide) (by decide)).mono fun e w' ⟨he, hB⟩ => ⟨_, he, hB, rfl⟩
    · refine ob_plain [49] rfl rfl fun aa g h => ?_
      obtain ⟨_, yy0, rfl⟩ := seen_in rfl h.1
      have ee0 := getD_of yy0
      exact tupon_value (v := _) (w1 := g.w.alloc (.cells #[.int .i64 6553600, .int .i64 6553600] 45)) (by simp [go_sem, ee0, yy0]) ((Below.refl _ _).alloc (Nat.le_refl _) _) (rx_blk (n := 1) (l := [(6553600, 6553600)]) encB_len (World.alloc_heap_new g.w _) rfl rfl (by decide))
    · refine ob_plain [3] rfl rfl fun aa g h => ?_
      have yy0 := seen_out (v := .pointer (some ⟨w1.heap.size + 1 + 1 + 1 + 1 + 1 + 1, 0, none⟩)) rfl rfl h.1
      have ee0 := getD_of yy0
      exact tupon_value (v := .agg #[.int .i64 0, .int .i64 65536]) (by simp [go_sem, ee0, yy0, h0 g, h1 g]) (Below.refl _ _) rfl
    · refine ob_plain [48, 50, 51] rfl rfl fun aa g h => ?_
      obtain ⟨_, yy0, rfl⟩ := seen_in rfl h.1
      have ee0 := getD_of yy0
      obtain ⟨z50, yy1, hv50⟩ := seen_in rfl h.2.1
      have ee1 := getD_of yy1
      obtain ⟨_, yy2, rfl⟩ := seen_in rfl h.2.2.1
      have ee2 := getD_of yy2
      refine tupon_enter (f := 14) (args := #[.agg #[.int .i64 1, .slice (some ⟨w4.heap.size, 0, none⟩) 2 2, .slice (some ⟨w4.heap.size + 1, 0, none⟩) 1 1], z50, .agg #[.int .i64 0, .int .i64 65536]]) (by simp [go_sem, ee0, yy0, ee1, yy1, ee2, yy2]) rfl ?_
      exact (encl_ok 1 0 65536 _ _ z50 [⟨2, 0, 0, 0, 0⟩, ⟨5, 0, 0, 0, 0⟩] [1] [(6553600, 6553600)] g.w (IQ.out.grow g.h) (PQ.out.grow g.h) hv50 tv_q rfl (vi_one (by decide)) (by decide) (by decide) (by decide) (by decide) none sv_c).mono fun e w' ⟨u9, he, hv, hB⟩ => ⟨_, he, hB, ⟨u9, rfl, hv⟩⟩
    · refine ob_plain [52] rfl rfl fun aa g h => ?_
      obtain ⟨_, yy0, ⟨y52, rfl, hv52⟩⟩ := seen_in rfl h.1
      have ee0 := getD_of yy0
      exact tupon_value (v := .tuple #[y52, .bool false]) (by simp [go_sem, ee0, yy0]) (Below.refl _ _) ⟨_, rfl, hv52⟩
    · refine ob_plain [47] rfl rfl fun aa g h => ?_
      obtain ⟨_, yy0, ⟨y47, rfl, hv47⟩⟩ := seen_in rfl h.1
      have ee0 := getD_of yy0
      exact tupon_value (v := y47) (by simp [go_sem, ee0, yy0]) (Below.refl _ _) hv47
    · refine ob_plain [47] rfl rfl fun aa g h => ?_
      obtain ⟨_, yy0, ⟨y47, rfl, hv47⟩⟩ := seen_in rfl h.1
      have ee0 := getD_of yy0
      exact tupon_value (v := .bool false) (by simp [go_sem, ee0, yy0]) (Below.refl _ _) rfl
    · refine ob_plain [53] rfl rfl fun aa g h => ?_
      obtain ⟨z53, yy0, hv53⟩ := seen_in rfl h.1
      have ee0 := getD_of yy0
      exact tupon_value (v := z53) (by simp [go_sem, ee0, yy0]) (Below.refl _ _) hv53
    · refine ob_plain [54] rfl rfl fun aa g h => ?_
      obtain ⟨_, yy0, rfl⟩ := seen_in rfl h.1
      have ee0 := getD_of yy0
      exact tupon_value (v := .bool false) (by simp [go_sem, ee0, yy0]) (Below.refl _ _) rfl
  rintro w5 hB _ rfl _ rfl z50 hv50 _ rfl _ ⟨y52, rfl, hv52⟩ _ ⟨y47, rfl, hv47⟩ z53 hv53 _ rfl z11 hv11 _ rfl
  simp only [Act.put, List.setIfInBounds_toArray, List.set_cons_succ, List.set_cons_zero, List.filterMap_nil, finP]
  clear k0 k1 k2 h0 h1 hv50 hv52 hv47 hv53 hv11
  have TN := Lib.hid (TN.out.grow hB)
  have TX := Lib.hid (TX.out.grow hB)
  have SG := Lib.hid (SG.out.grow hB)
  have SH := Lib.hid (SH.out.grow hB)
  have IN := Lib.hid (IN.out.grow hB)
  have PN := Lib.hid (PN.out.grow hB)
  have IX := Lib.hid (IX.out.grow hB)
  have PX := Lib.hid (PX.out.grow hB)
  have VS := Lib.hid (VS.out.grow hB)
  have VA := Lib.hid (VA.out.grow hB)
  have VB := Lib.hid (VB.out.grow hB)
  have HW := Lib.hid (below_then HW.out hB)
  clear hB TQ IQ PQ
  have t0 := heapN_cellj TX.out (k := 0) rfl
  have t1 := heapN_cellj TX.out (k := 1) rfl
  have t2 := heapN_cellj TX.out (k := 2) rfl
  have hE : Below w5.heap.size w5 (w5.alloc (.cells #[.int .i64 65536, .int .i64 131072] 45)) := allocs_below [.cells #[.int .i64 65536, .int .i64 131072] 45] w5
  have BB : Hid (Blk (w5.alloc (.cells #[.int .i64 65536, .int .i64 131072] 45)) (w5.heap.size) (.cells #[.int .i64 65536, .int .i64 131072] 45)) := Lib.hid (allocs_at [.cells #[.int .i64 65536, .int .i64 131072] 45] w5 0 _ rfl)
  have TN := Lib.hid (TN.out.grow hE)
  have TX := Lib.hid (TX.out.grow hE)
  have SG := Lib.hid (SG.out.grow hE)
  have SH := Lib.hid (SH.out.grow hE)
  have IN := Lib.hid (IN.out.grow hE)
  have PN := Lib.hid (PN.out.grow hE)
  have IX := Lib.hid (IX.out.grow hE)
  have PX := Lib.hid (PX.out.grow hE)
  have VS := Lib.hid (VS.out.grow hE)
  have VA := Lib.hid (VA.out.grow hE)
  have VB := Lib.hid (VB.out.grow hE)
  have HW := Lib.hid (below_then HW.out hE)
  clear hE
  have VJ := Lib.hid (rx_blk (n := 1) (l := [(65536, 131072)]) encB_len BB.out rfl rfl (by decide))
  clear BB
  have s0 := heapN_cellj SG.out (k := 0) rfl
  have s1 := heapN_cellj SG.out (k := 1) rfl
  go_wp2_with (fail)
  refine (image_vx 1 0 65536 _ _ _ _ [⟨2, 0, 0, 0, 0⟩] [0] [(65536, 65536)] [(65536, 131072)] _ IX.out PX.out VS.out VJ.out tv_x rfl rfl (vi_one (by decide)) (vi_one (by decide)) (by decide) (by decide) (by decide) (by decide)).mono ?_
  rintro e w6 ⟨u13, rfl, hv, hB⟩
  have TN := Lib.hid (TN.out.grow hB)
  have TX := Lib.hid (TX.out.grow hB)
  have SG := Lib.hid (SG.out.grow hB)
  have SH := Lib.hid (SH.out.grow hB)
  have IN := Lib.hid (IN.out.grow hB)
  have PN := Lib.hid (PN.out.grow hB)
  have IX := Lib.hid (IX.out.grow hB)
  have PX := Lib.hid (PX.out.grow hB)
  have VS := Lib.hid (VS.out.grow hB)
  have VA := Lib.hid (VA.out.grow hB)
  have VB := Lib.hid (VB.out.grow hB)
  have VJ := Lib.hid (VJ.out.grow hB)
  have HW := Lib.hid (below_then HW.out hB)
  clear hB
  rw [sv_i] at hv
  obtain ⟨p13, c13, rfl⟩ : ∃ p c, u13 = .slice p 1 c := hv.cut
  have VI13 := Lib.hid hv
  clear hv t0 t1 t2 s0 s1
  clear VJ
  have hE : Below w6.heap.size w6 (w6.alloc (.cells #[.int .i64 0, .int .i64 65536] 45)) := allocs_below [.cells #[.int .i64 0, .int .i64 65536] 45] w6
  have BB : Hid (Blk (w6.alloc (.cells #[.int .i64 0, .int .i64 65536] 45)) (w6.heap.size) (.cells #[.int .i64 0, .int .i64 65536] 45)) := Lib.hid (allocs_at [.cells #[.int .i64 0, .int .i64 65536] 45] w6 0 _ rfl)
  have TN := Lib.hid (TN.out.grow hE)
  have TX := Lib.hid (TX.out.grow hE)
  have SG := Lib.hid (SG.out.grow hE)
  have SH := Lib.hid (SH.out.grow hE)
  have IN := Lib.hid (IN.out.grow hE)
  have PN := Lib.hid (PN.out.grow hE)
  have IX := Lib.hid (IX.out.grow hE)
  have PX := Lib.hid (PX.out.grow hE)
  have VS := Lib.hid (VS.out.grow hE)
  have VA := Lib.hid (VA.out.grow hE)
  have VB := Lib.hid (VB.out.grow hE)
  have VI13 := Lib.hid (VI13.out.grow hE)
  have HW := Lib.hid (below_then HW.out hE)
  clear hE
  have VZ := Lib.hid (rx_blk (n := 1) (l := [(0, 65536)]) encB_len BB.out rfl rfl (by decide))
  clear BB
  go_wp2_with (fail)
  refine (sbox_self _ _ [(0, 65536)] 1 _ VA.out VZ.out rfl).mono ?_
  rintro e w7 ⟨rfl, hB⟩
  have TN := Lib.hid (TN.out.grow hB)
  have TX := Lib.hid (TX.out.grow hB)
  have SG := Lib.hid (SG.out.grow hB)
  have SH := Lib.hid (SH.out.grow hB)
  have IN := Lib.hid (IN.out.grow hB)
  have PN := Lib.hid (PN.out.grow hB)
  have IX := Lib.hid (IX.out.grow hB)
  have PX := Lib.hid (PX.out.grow hB)
  have VS := Lib.hid (VS.out.grow hB)
  have VA := Lib.hid (VA.out.grow hB)
  have VB := Lib.hid (VB.out.grow hB)
  have VI13 := Lib.hid (VI13.out.grow hB)
  have VZ := Lib.hid (VZ.out.grow hB)
  have HW := Lib.hid (below_then HW.out hB)
  clear hB
  clear VZ
  have hE : Below w7.heap.size w7 (w7.alloc (.cells #[.int .i64 65536, .int .i64 69924] 45)) := allocs_below [.cells #[.int .i64 65536, .int .i64 69924] 45] w7
  have BB : Hid (Blk (w7.alloc (.cells #[.int .i64 65536, .int .i64 69924] 45)) (w7.heap.size) (.cells #[.int .i64 65536, .int .i64 69924] 45)) := Lib.hid (allocs_at [.cells #[.int .i64 65536, .int .i64 69924] 45] w7 0 _ rfl)
  have TN := Lib.hid (TN.out.grow hE)
  have TX := Lib.hid (TX.out.grow hE)
  have SG := Lib.hid (SG.out.grow hE)
  have SH := Lib.hid (SH.out.grow hE)
  have IN := Lib.hid (IN.out.grow hE)
  have PN := Lib.hid (PN.out.grow hE)
  have IX := Lib.hid (IX.out.grow hE)
  have PX := Lib.hid (PX.out.grow hE)
  have VS := Lib.hid (VS.out.grow hE)
  have VA := Lib.hid (VA.out.grow hE)
  have VB := Lib.hid (VB.out.grow hE)
  have VI13 := Lib.hid (VI13.out.grow hE)
  have HW := Lib.hid (below_then HW.out hE)
  clear hE
  have VZ := Lib.hid (rx_blk (n := 1) (l := [(65536, 69924)]) encB_len BB.out rfl rfl (by decide))
  clear BB
  go_wp2_with (fail)
  refine (sbox_self _ _ [(65536, 69924)] 1 _ VB.out VZ.out rfl).mono ?_
  rintro e w8 ⟨rfl, hB⟩
  have TN := Lib.hid (TN.out.grow hB)
  have TX := Lib.hid (TX.out.grow hB)
  have SG := Lib.hid (SG.out.grow hB)
  have SH := Lib.hid (SH.out.grow hB)
  have IN := Lib.hid (IN.out.grow hB)
  have PN := Lib.hid (PN.out.grow hB)
  have IX := Lib.hid (IX.out.grow hB)
  have PX := Lib.hid (PX.out.grow hB)
  have VS := Lib.hid (VS.out.grow hB)
  have VA := Lib.hid (VA.out.grow hB)
  have VB := Lib.hid (VB.out.grow hB)
  have VI13 := Lib.hid (VI13.out.grow hB)
  have VZ := Lib.hid (VZ.out.grow hB)
  have HW := Lib.hid (below_then HW.out hB)
  clear hB
  clear VZ
  have hE : Below w8.heap.size w8 (w8.alloc (.cells #[.int .i64 65536, .int .i64 196608] 45)) := allocs_below [.cells #[.int .i64 65536, .int .i64 196608] 45] w8
  have BB : Hid (Blk (w8.alloc (.cells #[.int .i64 65536, .int .i64 196608] 45)) (w8.heap.size) (.cells #[.int .i64 65536, .int .i64 196608] 45)) := Lib.hid (allocs_at [.cells #[.int .i64 65536, .int .i64 196608] 45] w8 0 _ rfl)
  have TN := Lib.hid (TN.out.grow hE)
  have TX := Lib.hid (TX.out.grow hE)
  have SG := Lib.hid (SG.out.grow hE)
  have SH := Lib.hid (SH.out.grow hE)
  have IN := Lib.hid (IN.out.grow hE)
  have PN := Lib.hid (PN.out.grow hE)
  have IX := Lib.hid (IX.out.grow hE)
  have PX := Lib.hid (PX.out.grow hE)
  have VS := Lib.hid (VS.out.grow hE)
  have VA := Lib.hid (VA.out.grow hE)
  have VB := Lib.hid (VB.out.grow hE)
  have VI13 := Lib.hid (VI13.out.grow hE)
  have HW := Lib.hid (below_then HW.out hE)
  clear hE
  have VZ := Lib.hid (rx_blk (n := 1) (l := [(65536, 196608)]) encB_len BB.out rfl rfl (by decide))
  clear BB
  go_wp2_with (fail)
  refine (sbox_self _ _ [(65536, 196608)] 1 _ VI13.out VZ.out rfl).mono ?_
  rintro e w9 ⟨rfl, hB⟩
  have TN := Lib.hid (TN.out.grow hB)
  have TX := Lib.hid (TX.out.grow hB)
  have SG := Lib.hid (SG.out.grow hB)
  have SH := Lib.hid (SH.out.grow hB)
  have IN := Lib.hid (IN.out.grow hB)
  have PN := Lib.hid (PN.out.grow hB)
  have IX := Lib.hid (IX.out.grow hB)
  have PX := Lib.hid (PX.out.grow hB)
  have VS := Lib.hid (VS.out.grow hB)
  have VA := Lib.hid (VA.out.grow hB)
  have VB := Lib.hid (VB.out.grow hB)
  have VI13 := Lib.hid (VI13.out.grow hB)
  have VZ := Lib.hid (VZ.out.grow hB)
  have HW := Lib.hid (below_then HW.out hB)
  clear hB
  clear VZ
  have t0 := heapN_cellj TX.out (k := 0) rfl
  have t1 := heapN_cellj TX.out (k := 1) rfl
  have t2 := heapN_cellj TX.out (k := 2) rfl
  have hE : Below w9.heap.size w9 (w9.alloc (.cells #[.int .i64 65536, .int .i64 70000] 45)) := allocs_below [.cells #[.int .i64 65536, .int .i64 70000] 45] w9
  have BB : Hid (Blk (w9.alloc (.cells #[.int .i64 65536, .int .i64 70000] 45)) (w9.heap.size) (.cells #[.int .i64 65536, .int .i64 70000] 45)) := Lib.hid (allocs_at [.cells #[.int .i64 65536, .int .i64 70000] 45] w9 0 _ rfl)
  have TN := Lib.hid (TN.out.grow hE)
  have TX := Lib.hid (TX.out.grow hE)
  have SG := Lib.hid (SG.out.grow hE)
  have SH := Lib.hid (SH.out.grow hE)
  have IN := Lib.hid (IN.out.grow hE)
  have PN := Lib.hid (PN.out.grow hE)
  have IX := Lib.hid (IX.out.grow hE)
  have PX := Lib.hid (PX.out.grow hE)
  have VS := Lib.hid (VS.out.grow hE)
  have VA := Lib.hid (VA.out.grow hE)
  have VB := Lib.hid (VB.out.grow hE)
  have VI13 := Lib.hid (VI13.out.grow hE)
  have HW := Lib.hid (below_then HW.out hE)
  clear hE
  have VZ := Lib.hid (rx_blk (n := 1) (l := [(65536, 70000)]) encB_len BB.out rfl rfl (by decide))
  clear BB
  have s0 := heapN_cellj SH.out (k := 0) rfl
  have s1 := heapN_cellj SH.out (k := 1) rfl
  go_wp2_with (fail)
  refine (val_ok 1 0 4096 _ _ _ _ [⟨2, 0, 0, 0, 0⟩] [0] [(65536, 65536)] [(65536, 70000)] _ _ IX.out PX.out VS.out VZ.out tv_x rfl rfl (vi_one (by decide)) (vi_one (by decide)) (by decide) (by decide) (by decide) (by decide) rfl true sv_v).mono ?_
  rintro e w10 ⟨rfl, hB⟩
  have TN := Lib.hid (TN.out.grow hB)
  have TX := Lib.hid (TX.out.grow hB)
  have SG := Lib.hid (SG.out.grow hB)
  have SH := Lib.hid (SH.out.grow hB)
  have IN := Lib.hid (IN.out.grow hB)
  have PN := Lib.hid (PN.out.grow hB)
  have IX := Lib.hid (IX.out.grow hB)
  have PX := Lib.hid (PX.out.grow hB)
  have VS := Lib.hid (VS.out.grow hB)
  have VA := Lib.hid (VA.out.grow hB)
  have VB := Lib.hid (VB.out.grow hB)
  have VI13 := Lib.hid (VI13.out.grow hB)
  have VZ := Lib.hid (VZ.out.grow hB)
  have HW := Lib.hid (below_then HW.out hB)
  clear hB
  clear t0 t1 t2 s0 s1
  clear VZ
  have t0 := heapN_cellj TX.out (k := 0) rfl
  have t1 := heapN_cellj TX.out (k := 1) rfl
  have t2 := heapN_cellj TX.out (k := 2) rfl
  have hE : Below w10.heap.size w10 (w10.alloc (.cells #[.int .i64 65536, .int .i64 69000] 45)) := allocs_below [.cells #[.int .i64 65536, .int .i64 69000] 45] w10
  have BB : Hid (Blk (w10.alloc (.cells #[.int .i64 65536, .int .i64 69000] 45)) (w10.heap.size) (.cells #[.int .i64 65536, .int .i64 69000] 45)) := Lib.hid (allocs_at [.cells #[.int .i64 65536, .int .i64 69000] 45] w10 0 _ rfl)
  have TN := Lib.hid (TN.out.grow hE)
  have TX := Lib.hid (TX.out.grow hE)
  have SG := Lib.hid (SG.out.grow hE)
  have SH := Lib.hid (SH.out.grow hE)
  have IN := Lib.hid (IN.out.grow hE)
  have PN := Lib.hid (PN.out.grow hE)
  have IX := Lib.hid (IX.out.grow hE)
  have PX := Lib.hid (PX.out.grow hE)
  have VS := Lib.hid (VS.out.grow hE)
  have VA := Lib.hid (VA.out.grow hE)
  have VB := Lib.hid (VB.out.grow hE)
  have VI13 := Lib.hid (VI13.out.grow hE)
  have HW := Lib.hid (below_then HW.out hE)
  clear hE
  have VZ := Lib.hid (rx_blk (n := 1) (l := [(65536, 69000)]) encB_len BB.out rfl rfl (by decide))
  clear BB
  have s0 := heapN_cellj SH.out (k := 0) rfl
  have s1 := heapN_cellj SH.out (k := 1) rfl
  go_wp2_with (fail)
  refine (val_ok 1 0 4096 _ _ _ _ [⟨2, 0, 0, 0, 0⟩] [0] [(65536, 65536)] [(65536, 69000)] _ _ IX.out PX.out VS.out VZ.out tv_x rfl rfl (vi_one (by decide)) (vi_one (by decide)) (by decide) (by decide) (by decide) (by decide) rfl false sv_n).mono ?_
  rintro e w11 ⟨rfl, hB⟩
  have TN := Lib.hid (TN.out.grow hB)
  have TX := Lib.hid (TX.out.grow hB)
  have SG := Lib.hid (SG.out.grow hB)
  have SH := Lib.hid (SH.out.grow hB)
  have IN := Lib.hid (IN.out.grow hB)
  have PN := Lib.hid (PN.out.grow hB)
  have IX := Lib.hid (IX.out.grow hB)
  have PX := Lib.hid (PX.out.grow hB)
  have VS := Lib.hid (VS.out.grow hB)
  have VA := Lib.hid (VA.out.grow hB)
  have VB := Lib.hid (VB.out.grow hB)
  have VI13 := Lib.hid (VI13.out.grow hB)
  have VZ := Lib.hid (VZ.out.grow hB)
  have HW := Lib.hid (below_then HW.out hB)
  clear hB
  clear t0 t1 t2 s0 s1
  clear VZ
  go_wp2_with (fail)
  go_ret
  exact ⟨rfl, HW.out⟩
end Go.Proofs.Ytecmgiihacigaaa
