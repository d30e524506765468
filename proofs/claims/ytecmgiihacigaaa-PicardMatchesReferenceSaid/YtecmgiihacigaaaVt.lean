/-
  The sanity of the laws over picard.
  Steps, problems, larger boxes; the reference's Subset.
-/
import Derived.Test.YtecmgiihacigaaaVe
import Derived.Test.YtecmgiihacigaaaUB
import Derived.Test.YtecmgiihacigaaaR1
namespace Go.Proofs.Ytecmgiihacigaaa
open Go.ChangeShapes Go.WideShapes Go.ChangeAt Go.RowKit Go.Maps
set_option linter.unusedVariables false
set_option linter.unusedSimpArgs false
set_option maxRecDepth 100000
attribute [local irreducible] Calls
theorem sv_a : encR (imgT [⟨1, 0, 0, 65536, 65536⟩] [0] 0 65536 [(0, 0)]) [(0, 0)] = some [(0, 65536)] := by decide +kernel
theorem sv_b : encR (imgT [⟨2, 0, 0, 0, 0⟩] [0] 0 4096 [(65536, 65536)]) [(65536, 65536)] = some [(65536, 69924)] := by decide +kernel
theorem sv_c : encR (imgT [⟨2, 0, 0, 0, 0⟩, ⟨5, 0, 0, 0, 0⟩] [1] 0 65536 [(6553600, 6553600)]) [(6553600, 6553600)] = none := by decide +kernel
theorem sv_i : imgT [⟨2, 0, 0, 0, 0⟩] [0] 0 65536 [(65536, 65536)] [(65536, 131072)] = [(65536, 196608)] := by decide +kernel
theorem sv_v : (bndB (imgT [⟨2, 0, 0, 0, 0⟩] [0] 0 4096 [(65536, 65536)] [(65536, 70000)]) && subB (imgT [⟨2, 0, 0, 0, 0⟩] [0] 0 4096 [(65536, 65536)] [(65536, 70000)]) [(65536, 70000)]) = true := by decide +kernel
theorem sv_n : (bndB (imgT [⟨2, 0, 0, 0, 0⟩] [0] 0 4096 [(65536, 65536)] [(65536, 69000)]) && subB (imgT [⟨2, 0, 0, 0, 0⟩] [0] 0 4096 [(65536, 65536)] [(65536, 69000)]) [(65536, 69000)]) = false := by decide +kernel
theorem tv_n : tvB 1 [⟨1, 0, 0, 65536, 65536⟩] [0] = true := by decide +kernel
theorem tv_x : tvB 1 [⟨2, 0, 0, 0, 0⟩] [0] = true := by decide +kernel
theorem tv_q : tvB 1 [⟨2, 0, 0, 0, 0⟩, ⟨5, 0, 0, 0, 0⟩] [1] = true := by decide +kernel
theorem vi_one {a b : Int} (h : VI a b) : ∀ p ∈ [(a, b)], VI p.1 p.2 := by
  intro p hp
  rw [List.mem_singleton.1 hp]
  exact h
set_option maxHeartbeats 64000000 in
theorem sanity11 (w : World) : Calls Try.prog 11 #[] w fun e w' => e = .returned (.bool true) ∧ Below w.heap.size w w' := by
  have HW := Lib.hid (Below.refl w.heap.size w)
  go_enter Try.func11, Try.ntmps11
  go_wp2_with (fail)
  refine (point_at 65536 _ (by decide) (by decide)).mono ?_
  rintro e w1 ⟨rfl, hB⟩
  have HW := Lib.hid (below_then HW.out hB)
  clear hB
  have hE : Below w1.heap.size w1 ((((((((w1.alloc (.cells #[.int .i64 1, .int .i64 0, .int .i64 0, .int .i64 65536, .int .i64 65536] 62)).alloc (.cells #[.int .i64 0] 3)).alloc (.cells #[.int .i64 1, .slice (some ⟨w1.heap.size, 0, none⟩) 1 1, .slice (some ⟨w1.heap.size + 1, 0, none⟩) 1 1] 25)).alloc (.cells #[.int .i64 2, .int .i64 0, .int .i64 0, .int .i64 0, .int .i64 0] 62)).alloc (.cells #[.int .i64 0] 3)).alloc (.cells #[.int .i64 1, .slice (some ⟨w1.heap.size + 1 + 1 + 1, 0, none⟩) 1 1, .slice (some ⟨w1.heap.size + 1 + 1 + 1 + 1, 0, none⟩) 1 1] 25)).alloc (.cells #[.int .i64 0, .int .i64 65536] 33)).alloc (.cells #[.int .i64 0, .int .i64 4096] 33)) := allocs_below [.cells #[.int .i64 1, .int .i64 0, .int .i64 0, .int .i64 65536, .int .i64 65536] 62, .cells #[.int .i64 0] 3, .cells #[.int .i64 1, .slice (some ⟨w1.heap.size, 0, none⟩) 1 1, .slice (some ⟨w1.heap.size + 1, 0, none⟩) 1 1] 25, .cells #[.int .i64 2, .int .i64 0, .int .i64 0, .int .i64 0, .int .i64 0] 62, .cells #[.int .i64 0] 3, .cells #[.int .i64 1, .slice (some ⟨w1.heap.size + 1 + 1 + 1, 0, none⟩) 1 1, .slice (some ⟨w1.heap.size + 1 + 1 + 1 + 1, 0, none⟩) 1 1] 25, .cells #[.int .i64 0, .int .i64 65536] 33, .cells #[.int .i64 0, .int .i64 4096] 33] w1
  have BN : Hid (Blk ((((((((w1.alloc (.cells #[.int .i64 1, .int .i64 0, .int .i64 0, .int .i64 65536, .int .i64 65536] 62)).alloc (.cells #[.int .i64 0] 3)).alloc (.cells #[.int .i64 1, .slice (some ⟨w1.heap.size, 0, none⟩) 1 1, .slice (some ⟨w1.heap.size + 1, 0, none⟩) 1 1] 25)).alloc (.cells #[.int .i64 2, .int .i64 0, .int .i64 0, .int .i64 0, .int .i64 0] 62)).alloc (.cells #[.int .i64 0] 3)).alloc (.cells #[.int .i64 1, .slice (some ⟨w1.heap.size + 1 + 1 + 1, 0, none⟩) 1 1, .slice (some ⟨w1.heap.size + 1 + 1 + 1 + 1, 0, none⟩) 1 1] 25)).alloc (.cells #[.int .i64 0, .int .i64 65536] 33)).alloc (.cells #[.int .i64 0, .int .i64 4096] 33)) (w1.heap.size) (.cells #[.int .i64 1, .int .i64 0, .int .i64 0, .int .i64 65536, .int .i64 65536] 62)) := Lib.hid (allocs_at [.cells #[.int .i64 1, .int .i64 0, .int .i64 0, .int .i64 65536, .int .i64 65536] 62, .cells #[.int .i64 0] 3, .cells #[.int .i64 1, .slice (some ⟨w1.heap.size, 0, none⟩) 1 1, .slice (some ⟨w1.heap.size + 1, 0, none⟩) 1 1] 25, .cells #[.int .i64 2, .int .i64 0, .int .i64 0, .int .i64 0, .int .i64 0] 62, .cells #[.int .i64 0] 3, .cells #[.int .i64 1, .slice (some ⟨w1.heap.size + 1 + 1 + 1, 0, none⟩) 1 1, .slice (some ⟨w1.heap.size + 1 + 1 + 1 + 1, 0, none⟩) 1 1] 25, .cells #[.int .i64 0, .int .i64 65536] 33, .cells #[.int .i64 0, .int .i64 4096] 33] w1 0 _ rfl)
  have ON : Hid (Blk ((((((((w1.alloc (.cells #[.int .i64 1, .int .i64 0, .int .i64 0, .int .i64 65536, .int .i64 65536] 62)).alloc (.cells #[.int .i64 0] 3)).alloc (.cells #[.int .i64 1, .slice (some ⟨w1.heap.size, 0, none⟩) 1 1, .slice (some ⟨w1.heap.size + 1, 0, none⟩) 1 1] 25)).alloc (.cells #[.int .i64 2, .int .i64 0, .int .i64 0, .int .i64 0, .int .i64 0] 62)).alloc (.cells #[.int .i64 0] 3)).alloc (.cells #[.int .i64 1, .slice (some ⟨w1.heap.size + 1 + 1 + 1, 0, none⟩) 1 1, .slice (some ⟨w1.heap.size + 1 + 1 + 1 + 1, 0, none⟩) 1 1] 25)).alloc (.cells #[.int .i64 0, .int .i64 65536] 33)).alloc (.cells #[.int .i64 0, .int .i64 4096] 33)) (w1.heap.size + 1) (.cells #[.int .i64 0] 3)) := Lib.hid (allocs_at [.cells #[.int .i64 1, .int .i64 0, .int .i64 0, .int .i64 65536, .int .i64 65536] 62, .cells #[.int .i64 0] 3, .cells #[.int .i64 1, .slice (some ⟨w1.heap.size, 0, none⟩) 1 1, .slice (some ⟨w1.heap.size + 1, 0, none⟩) 1 1] 25, .cells #[.int .i64 2, .int .i64 0, .int .i64 0, .int .i64 0, .int .i64 0] 62, .cells #[.int .i64 0] 3, .cells #[.int .i64 1, .slice (some ⟨w1.heap.size + 1 + 1 + 1, 0, none⟩) 1 1, .slice (some ⟨w1.heap.size + 1 + 1 + 1 + 1, 0, none⟩) 1 1] 25, .cells #[.int .i64 0, .int .i64 65536] 33, .cells #[.int .i64 0, .int .i64 4096] 33] w1 1 _ rfl)
  have TN : Hid (Blk ((((((((w1.alloc (.cells #[.int .i64 1, .int .i64 0, .int .i64 0, .int .i64 65536, .int .i64 65536] 62)).alloc (.cells #[.int .i64 0] 3)).alloc (.cells #[.int .i64 1, .slice (some ⟨w1.heap.size, 0, none⟩) 1 1, .slice (some ⟨w1.heap.size + 1, 0, none⟩) 1 1] 25)).alloc (.cells #[.int .i64 2, .int .i64 0, .int .i64 0, .int .i64 0, .int .i64 0] 62)).alloc (.cells #[.int .i64 0] 3)).alloc (.cells #[.int .i64 1, .slice (some ⟨w1.heap.size + 1 + 1 + 1, 0, none⟩) 1 1, .slice (some ⟨w1.heap.size + 1 + 1 + 1 + 1, 0, none⟩) 1 1] 25)).alloc (.cells #[.int .i64 0, .int .i64 65536] 33)).alloc (.cells #[.int .i64 0, .int .i64 4096] 33)) (w1.heap.size + 1 + 1) (.cells #[.int .i64 1, .slice (some ⟨w1.heap.size, 0, none⟩) 1 1, .slice (some ⟨w1.heap.size + 1, 0, none⟩) 1 1] 25)) := Lib.hid (allocs_at [.cells #[.int .i64 1, .int .i64 0, .int .i64 0, .int .i64 65536, .int .i64 65536] 62, .cells #[.int .i64 0] 3, .cells #[.int .i64 1, .slice (some ⟨w1.heap.size, 0, none⟩) 1 1, .slice (some ⟨w1.heap.size + 1, 0, none⟩) 1 1] 25, .cells #[.int .i64 2, .int .i64 0, .int .i64 0, .int .i64 0, .int .i64 0] 62, .cells #[.int .i64 0] 3, .cells #[.int .i64 1, .slice (some ⟨w1.heap.size + 1 + 1 + 1, 0, none⟩) 1 1, .slice (some ⟨w1.heap.size + 1 + 1 + 1 + 1, 0, none⟩) 1 1] 25, .cells #[.int .i64 0, .int .i64 65536] 33, .cells #[.int .i64 0, .int .i64 4096] 33] w1 2 _ rfl)
  have BX : Hid (Blk ((((((((w1.alloc (.cells #[.int .i64 1, .int .i64 0, .int .i64 0, .int .i64 65536, .int .i64 65536] 62)).alloc (.cells #[.int .i64 0] 3)).alloc (.cells #[.int .i64 1, .slice (some ⟨w1.heap.size, 0, none⟩) 1 1, .slice (some ⟨w1.heap.size + 1, 0, none⟩) 1 1] 25)).alloc (.cells #[.int .i64 2, .int .i64 0, .int .i64 0, .int .i64 0, .int .i64 0] 62)).alloc (.cells #[.int .i64 0] 3)).alloc (.cells #[.int .i64 1, .slice (some ⟨w1.heap.size + 1 + 1 + 1, 0, none⟩) 1 1, .slice (some ⟨w1.heap.size + 1 + 1 + 1 + 1, 0, none⟩) 1 1] 25)).alloc (.cells #[.int .i64 0, .int .i64 65536] 33)).alloc (.cells #[.int .i64 0, .int .i64 4096] 33)) (w1.heap.size + 1 + 1 + 1) (.cells #[.int .i64 2, .int .i64 0, .int .i64 0, .int .i64 0, .int .i64 0] 62)) := Lib.hid (allocs_at [.cells #[.int .i64 1, .int .i64 0, .int .i64 0, .int .i64 65536, .int .i64 65536] 62, .cells #[.int .i64 0] 3, .cells #[.int .i64 1, .slice (some ⟨w1.heap.size, 0, none⟩) 1 1, .slice (some ⟨w1.heap.size + 1, 0, none⟩) 1 1] 25, .cells #[.int .i64 2, .int .i64 0, .int .i64 0, .int .i64 0, .int .i64 0] 62, .cells #[.int .i64 0] 3, .cells #[.int .i64 1, .slice (some ⟨w1.heap.size + 1 + 1 + 1, 0, none⟩) 1 1, .slice (some ⟨w1.heap.size + 1 + 1 + 1 + 1, 0, none⟩) 1 1] 25, .cells #[.int .i64 0, .int .i64 65536] 33, .cells #[.int .i64 0, .int .i64 4096] 33] w1 3 _ rfl)
  have OX : Hid (Blk ((((((((w1.alloc (.cells #[.int .i64 1, .int .i64 0, .int .i64 0, .int .i64 65536, .int .i64 65536] 62)).alloc (.cells #[.int .i64 0] 3)).alloc (.cells #[.int .i64 1, .slice (some ⟨w1.heap.size, 0, none⟩) 1 1, .slice (some ⟨w1.heap.size + 1, 0, none⟩) 1 1] 25)).alloc (.cells #[.int .i64 2, .int .i64 0, .int .i64 0, .int .i64 0, .int .i64 0] 62)).alloc (.cells #[.int .i64 0] 3)).alloc (.cells #[.int .i64 1, .slice (some ⟨w1.heap.size + 1 + 1 + 1, 0, none⟩) 1 1, .slice (some ⟨w1.heap.size + 1 + 1 + 1 + 1, 0, none⟩) 1 1] 25)).alloc (.cells #[.int .i64 0, .int .i64 65536] 33)).alloc (.cells #[.int .i64 0, .int .i64 4096] 33)) (w1.heap.size + 1 + 1 + 1 + 1) (.cells #[.int .i64 0] 3)) := Lib.hid (allocs_at [.cells #[.int .i64 1, .int .i64 0, .int .i64 0, .int .i64 65536, .int .i64 65536] 62, .cells #[.int .i64 0] 3, .cells #[.int .i64 1, .slice (some ⟨w1.heap.size, 0, none⟩) 1 1, .slice (some ⟨w1.heap.size + 1, 0, none⟩) 1 1] 25, .cells #[.int .i64 2, .int .i64 0, .int .i64 0, .int .i64 0, .int .i64 0] 62, .cells #[.int .i64 0] 3, .cells #[.int .i64 1, .slice (some ⟨w1.heap.size + 1 + 1 + 1, 0, none⟩) 1 1, .slice (some ⟨w1.heap.size + 1 + 1 + 1 + 1, 0, none⟩) 1 1] 25, .cells #[.int .i64 0, .int .i64 65536] 33, .cells #[.int .i64 0, .int .i64 4096] 33] w1 4 _ rfl)
  have TX : Hid (Blk ((((((((w1.alloc (.cells #[.int .i64 1, .int .i64 0, .int .i64 0, .int .i64 65536, .int .i64 65536] 62)).alloc (.cells #[.int .i64 0] 3)).alloc (.cells #[.int .i64 1, .slice (some ⟨w1.heap.size, 0, none⟩) 1 1, .slice (some ⟨w1.heap.size + 1, 0, none⟩) 1 1] 25)).alloc (.cells #[.int .i64 2, .int .i64 0, .int .i64 0, .int .i64 0, .int .i64 0] 62)).alloc (.cells #[.int .i64 0] 3)).alloc (.cells #[.int .i64 1, .slice (some ⟨w1.heap.size + 1 + 1 + 1, 0, none⟩) 1 1, .slice (some ⟨w1.heap.size + 1 + 1 + 1 + 1, 0, none⟩) 1 1] 25)).alloc (.cells #[.int .i64 0, .int .i64 65536] 33)).alloc (.cells #[.int .i64 0, .int .i64 4096] 33)) (w1.heap.size + 1 + 1 + 1 + 1 + 1) (.cells #[.int .i64 1, .slice (some ⟨w1.heap.size + 1 + 1 + 1, 0, none⟩) 1 1, .slice (some ⟨w1.heap.size + 1 + 1 + 1 + 1, 0, none⟩) 1 1] 25)) := Lib.hid (allocs_at [.cells #[.int .i64 1, .int .i64 0, .int .i64 0, .int .i64 65536, .int .i64 65536] 62, .cells #[.int .i64 0] 3, .cells #[.int .i64 1, .slice (some ⟨w1.heap.size, 0, none⟩) 1 1, .slice (some ⟨w1.heap.size + 1, 0, none⟩) 1 1] 25, .cells #[.int .i64 2, .int .i64 0, .int .i64 0, .int .i64 0, .int .i64 0] 62, .cells #[.int .i64 0] 3, .cells #[.int .i64 1, .slice (some ⟨w1.heap.size + 1 + 1 + 1, 0, none⟩) 1 1, .slice (some ⟨w1.heap.size + 1 + 1 + 1 + 1, 0, none⟩) 1 1] 25, .cells #[.int .i64 0, .int .i64 65536] 33, .cells #[.int .i64 0, .int .i64 4096] 33] w1 5 _ rfl)
  have SG : Hid (Blk ((((((((w1.alloc (.cells #[.int .i64 1, .int .i64 0, .int .i64 0, .int .i64 65536, .int .i64 65536] 62)).alloc (.cells #[.int .i64 0] 3)).alloc (.cells #[.int .i64 1, .slice (some ⟨w1.heap.size, 0, none⟩) 1 1, .slice (some ⟨w1.heap.size + 1, 0, none⟩) 1 1] 25)).alloc (.cells #[.int .i64 2, .int .i64 0, .int .i64 0, .int .i64 0, .int .i64 0] 62)).alloc (.cells #[.int .i64 0] 3)).alloc (.cells #[.int .i64 1, .slice (some ⟨w1.heap.size + 1 + 1 + 1, 0, none⟩) 1 1, .slice (some ⟨w1.heap.size + 1 + 1 + 1 + 1, 0, none⟩) 1 1] 25)).alloc (.cells #[.int .i64 0, .int .i64 65536] 33)).alloc (.cells #[.int .i64 0, .int .i64 4096] 33)) (w1.heap.size + 1 + 1 + 1 + 1 + 1 + 1) (.cells #[.int .i64 0, .int .i64 65536] 33)) := Lib.hid (allocs_at [.cells #[.int .i64 1, .int .i64 0, .int .i64 0, .int .i64 65536, .int .i64 65536] 62, .cells #[.int .i64 0] 3, .cells #[.int .i64 1, .slice (some ⟨w1.heap.size, 0, none⟩) 1 1, .slice (some ⟨w1.heap.size + 1, 0, none⟩) 1 1] 25, .cells #[.int .i64 2, .int .i64 0, .int .i64 0, .int .i64 0, .int .i64 0] 62, .cells #[.int .i64 0] 3, .cells #[.int .i64 1, .slice (some ⟨w1.heap.size + 1 + 1 + 1, 0, none⟩) 1 1, .slice (some ⟨w1.heap.size + 1 + 1 + 1 + 1, 0, none⟩) 1 1] 25, .cells #[.int .i64 0, .int .i64 65536] 33, .cells #[.int .i64 0, .int .i64 4096] 33] w1 6 _ rfl)
  have SH : Hid (Blk ((((((((w1.alloc (.cells #[.int .i64 1, .int .i64 0, .int .i64 0, .int .i64 65536, .int .i64 65536] 62)).alloc (.cells #[.int .i64 0] 3)).alloc (.cells #[.int .i64 1, .slice (some ⟨w1.heap.size, 0, none⟩) 1 1, .slice (some ⟨w1.heap.size + 1, 0, none⟩) 1 1] 25)).alloc (.cells #[.int .i64 2, .int .i64 0, .int .i64 0, .int .i64 0, .int .i64 0] 62)).alloc (.cells #[.int .i64 0] 3)).alloc (.cells #[.int .i64 1, .slice (some ⟨w1.heap.size + 1 + 1 + 1, 0, none⟩) 1 1, .slice (some ⟨w1.heap.size + 1 + 1 + 1 + 1, 0, none⟩) 1 1] 25)).alloc (.cells #[.int .i64 0, .int .i64 65536] 33)).alloc (.cells #[.int .i64 0, .int .i64 4096] 33)) (w1.heap.size + 1 + 1 + 1 + 1 + 1 + 1 + 1) (.cells #[.int .i64 0, .int .i64 4096] 33)) := Lib.hid (allocs_at [.cells #[.int .i64 1, .int .i64 0, .int .i64 0, .int .i64 65536, .int .i64 65536] 62, .cells #[.int .i64 0] 3, .cells #[.int .i64 1, .slice (some ⟨w1.heap.size, 0, none⟩) 1 1, .slice (some ⟨w1.heap.size + 1, 0, none⟩) 1 1] 25, .cells #[.int .i64 2, .int .i64 0, .int .i64 0, .int .i64 0, .int .i64 0] 62, .cells #[.int .i64 0] 3, .cells #[.int .i64 1, .slice (some ⟨w1.heap.size + 1 + 1 + 1, 0, none⟩) 1 1, .slice (some ⟨w1.heap.size + 1 + 1 + 1 + 1, 0, none⟩) 1 1] 25, .cells #[.int .i64 0, .int .i64 65536] 33, .cells #[.int .i64 0, .int .i64 4096] 33] w1 7 _ rfl)
  have HW := Lib.hid (below_then HW.out hE)
  clear hE
  have IN := Lib.hid (rx_blk (n := 1) (l := [⟨1, 0, 0, 65536, 65536⟩]) encI_len BN.out rfl rfl (by decide))
  have PN := Lib.hid (rx_blk (n := 1) (enc := enc1) (l := [0]) (fun _ => rfl) ON.out rfl rfl (by decide))
  have IX := Lib.hid (rx_blk (n := 1) (l := [⟨2, 0, 0, 0, 0⟩]) encI_len BX.out rfl rfl (by decide))
  have PX := Lib.hid (rx_blk (n := 1) (enc := enc1) (l := [0]) (fun _ => rfl) OX.out rfl rfl (by decide))
  clear BN ON BX OX
  go_wp2_with (fail)
  refine (point_at 65536 _ (by decide) (by decide)).mono ?_
  rintro e w2 ⟨rfl, hB⟩
  have TN := Lib.hid (TN.out.grow hB)
  have TX := Lib.hid (TX.out.grow hB)
  have SG := Lib.hid (SG.out.grow hB)
  have SH := Lib.hid (SH.out.grow hB)
  have IN := Lib.hid (IN.out.grow hB)
  have PN := Lib.hid (PN.out.grow hB)
  have IX := Lib.hid (IX.out.grow hB)
  have PX := Lib.hid (PX.out.grow hB)
  have HW := Lib.hid (below_then HW.out hB)
  clear hB
  have hE : Below w2.heap.size w2 (w2.alloc (.cells #[.int .i64 65536, .int .i64 65536] 45)) := allocs_below [.cells #[.int .i64 65536, .int .i64 65536] 45] w2
  have BS : Hid (Blk (w2.alloc (.cells #[.int .i64 65536, .int .i64 65536] 45)) (w2.heap.size) (.cells #[.int .i64 65536, .int .i64 65536] 45)) := Lib.hid (allocs_at [.cells #[.int .i64 65536, .int .i64 65536] 45] w2 0 _ rfl)
  have TN := Lib.hid (TN.out.grow hE)
  have TX := Lib.hid (TX.out.grow hE)
  have SG := Lib.hid (SG.out.grow hE)
  have SH := Lib.hid (SH.out.grow hE)
  have IN := Lib.hid (IN.out.grow hE)
  have PN := Lib.hid (PN.out.grow hE)
  have IX := Lib.hid (IX.out.grow hE)
  have PX := Lib.hid (PX.out.grow hE)
  have HW := Lib.hid (below_then HW.out hE)
  clear hE
  have VS := Lib.hid (rx_blk (n := 1) (l := [(65536, 65536)]) encB_len BS.out rfl rfl (by decide))
  clear BS
  go_wp2_with (fail)
  generalize hWW : World.alloc w2 _ = W5 at *
  clear hWW
  have k0 := fun g : Grown W5 => heapN_cellj (TN.out.grow g.h) (k := 0) rfl
  have k1 := fun g : Grown W5 => heapN_cellj (TN.out.grow g.h) (k := 1) rfl
  have k2 := fun g : Grown W5 => heapN_cellj (TN.out.grow g.h) (k := 2) rfl
  have h0 := fun g : Grown W5 => heapN_cellj (SG.out.grow g.h) (k := 0) rfl
  have h1 := fun g : Grown W5 => heapN_cellj (SG.out.grow g.h) (k := 1) rfl
  refine region_pred (lk [(28, fun z_ _ => z_ = .agg #[.int .i64 1, .slice (some ⟨w1.heap.size, 0, none⟩) 1 1, .slice (some ⟨w1.heap.size + 1, 0, none⟩) 1 1]), (29, fun z_ _ => z_ = .agg #[.int .i64 0, .int .i64 0]), (30, fun z_ w' => Vx w' z_ [(0, 0)]), (31, fun z_ _ => z_ = .agg #[.int .i64 0, .int .i64 65536]), (32, fun z_ w' => ∃ y_, z_ = .tuple #[y_, .bool true] ∧ Vx w' y_ [(0, 65536)]), (27, fun z_ w' => ∃ y_, z_ = .tuple #[y_, .bool true] ∧ Vx w' y_ [(0, 65536)]), (33, fun z_ w' => Vx w' z_ [(0, 65536)]), (34, fun z_ _ => z_ = .bool true), (6, fun z_ w' => Vx w' z_ [(0, 65536)]), (7, fun z_ _ => z_ = .bool true)]) (by kernel_rfl) (by kernel_rfl) (lk_steady _ ⟨steady_eq _, steady_eq _, fun u w1 w2 hb h => h.grow hb, steady_eq _, fun u w1 w2 hb ⟨y, e, h⟩ => ⟨y, e, h.grow hb⟩, fun u w1 w2 hb ⟨y, e, h⟩ => ⟨y, e, h.grow hb⟩, fun u w1 w2 hb h => h.grow hb, steady_eq _, fun u w1 w2 hb h => h.grow hb, steady_eq _, trivial⟩) ?_ ?_
  · refine ⟨?_, ?_, ?_, ?_, ?_, ?_, ?_, ?_, ?_, ?_, trivial⟩
    · refine ob_plain [1] rfl rfl fun aa g h => ?_
      have yy0 := seen_out (v := .pointer (some ⟨w1.heap.size + 1 + 1, 0, none⟩)) rfl rfl h.1
      have ee0 := getD_of yy0
      exact tupon_value (v := .agg #[.int .i64 1, .slice (some ⟨w1.heap.size, 0, none⟩) 1 1, .slice (some ⟨w1.heap.size + 1, 0, none⟩) 1 1]) (by simp [go_sem, ee0, yy0, k0 g, k1 g, k2 g]) (Below.refl _ _) rfl
    · refine ob_plain [] rfl rfl fun aa g h => ?_
      refine tupon_enter (f := 24) (args := #[.int .i64 0]) (by simp [go_sem]) rfl ?_
      exact (point_at 0 g.w (by decide) (by decide)).mono fun e w' ⟨he, hB⟩ => ⟨_, he, hB, rfl⟩
    · refine ob_plain [29] rfl rfl fun aa g h => ?_
      obtain ⟨_, yy0, rfl⟩ := seen_in rfl h.1
      have ee0 := getD_of yy0
      exact tupon_value (v := _) (w1 := g.w.alloc (.cells #[.int .i64 0, .int .i64 0] 45)) (by simp [go_sem, ee0, yy0]) ((Below.refl _ _).alloc (Nat.le_refl _) _) (rx_blk (n := 1) (l := [(0, 0)]) encB_len (World.alloc_heap_new g.w _) rfl rfl (by decide))
    · refine ob_plain [3] rfl rfl fun aa g h => ?_
      have yy0 := seen_out (v := .pointer (some ⟨w1.heap.size + 1 + 1 + 1 + 1 + 1 + 1, 0, none⟩)) rfl rfl h.1
      have ee0 := getD_of yy0
      exact tupon_value (v := .agg #[.int .i64 0, .int .i64 65536]) (by simp [go_sem, ee0, yy0, h0 g, h1 g]) (Below.refl _ _) rfl
    · refine ob_plain [28, 30, 31] rfl rfl fun aa g h => ?_
      obtain ⟨_, yy0, rfl⟩ := seen_in rfl h.1
      have ee0 := getD_of yy0
      obtain ⟨z30, yy1, hv30⟩ := seen_in rfl h.2.1
      have ee1 := getD_of yy1
      obtain ⟨_, yy2, rfl⟩ := seen_in rfl h.2.2.1
      have ee2 := getD_of yy2
      refine tupon_enter (f := 14) (args := #[.agg #[.int .i64 1, .slice (some ⟨w1.heap.size, 0, none⟩) 1 1, .slice (some ⟨w1.heap.size + 1, 0, none⟩) 1 1], z30, .agg #[.int .i64 0, .int .i64 65536]]) (by simp [go_sem, ee0, yy0, ee1, yy1, ee2, yy2]) rfl ?_
      exact (encl_ok 1 0 65536 _ _ z30 [⟨1, 0, 0, 65536, 65536⟩] [0] [(0, 0)] g.w (IN.out.grow g.h) (PN.out.grow g.h) hv30 tv_n rfl (vi_one (by decide)) (by decide) (by decide) (by decide) (by decide) (some [(0, 65536)]) sv_a).mono fun e w' ⟨u9, he, hv, hB⟩ => ⟨_, he, hB, ⟨u9, rfl, hv⟩⟩
    · refine ob_plain [32] rfl rfl fun aa g h => ?_
      obtain ⟨_, yy0, ⟨y32, rfl, hv32⟩⟩ := seen_in rfl h.1
      have ee0 := getD_of yy0
      exact tupon_value (v := .tuple #[y32, .bool true]) (by simp [go_sem, ee0, yy0]) (Below.refl _ _) ⟨_, rfl, hv32⟩
    · refine ob_plain [27] rfl rfl fun aa g h => ?_
      obtain ⟨_, yy0, ⟨y27, rfl, hv27⟩⟩ := seen_in rfl h.1
      have ee0 := getD_of yy0
      exact tupon_value (v := y27) (by simp [go_sem, ee0, yy0]) (Below.refl _ _) hv27
    · refine ob_plain [27] rfl rfl fun aa g h => ?_
      obtain ⟨_, yy0, ⟨y27, rfl, hv27⟩⟩ := seen_in rfl h.1
      have ee0 := getD_of yy0
      exact tupon_value (v := .bool true) (by simp [go_sem, ee0, yy0]) (Below.refl _ _) rfl
    · refine ob_plain [33] rfl rfl fun aa g h => ?_
      obtain ⟨z33, yy0, hv33⟩ := seen_in rfl h.1
      have ee0 := getD_of yy0
      exact tupon_value (v := z33) (by simp [go_sem, ee0, yy0]) (Below.refl _ _) hv33
    · refine ob_plain [34] rfl rfl fun aa g h => ?_
      obtain ⟨_, yy0, rfl⟩ := seen_in rfl h.1
      have ee0 := getD_of yy0
      exact tupon_value (v := .bool true) (by simp [go_sem, ee0, yy0]) (Below.refl _ _) rfl
  rintro w3 hB _ rfl _ rfl z30 hv30 _ rfl _ ⟨y32, rfl, hv32⟩ _ ⟨y27, rfl, hv27⟩ z33 hv33 _ rfl z6 hv6 _ rfl
  simp only [Act.put, List.setIfInBounds_toArray, List.set_cons_succ, List.set_cons_zero, List.filterMap_nil, finP]
  clear k0 k1 k2 h0 h1 hv30 hv32 hv27 hv33
  have TN := Lib.hid (TN.out.grow hB)
  have TX := Lib.hid (TX.out.grow hB)
  have SG := Lib.hid (SG.out.grow hB)
  have SH := Lib.hid (SH.out.grow hB)
  have IN := Lib.hid (IN.out.grow hB)
  have PN := Lib.hid (PN.out.grow hB)
  have IX := Lib.hid (IX.out.grow hB)
  have PX := Lib.hid (PX.out.grow hB)
  have VS := Lib.hid (VS.out.grow hB)
  have HW := Lib.hid (below_then HW.out hB)
  clear hB
  obtain ⟨p6, c6, rfl⟩ : ∃ p c, z6 = .slice p 1 c := hv6.cut
  have VA := Lib.hid hv6
  clear hv6
  have t0 := heapN_cellj TX.out (k := 0) rfl
  have t1 := heapN_cellj TX.out (k := 1) rfl
  have t2 := heapN_cellj TX.out (k := 2) rfl
  have s0 := heapN_cellj SH.out (k := 0) rfl
  have s1 := heapN_cellj SH.out (k := 1) rfl
  go_wp2_with (fail)
  refine (encl_ok 1 0 4096 _ _ _ [⟨2, 0, 0, 0, 0⟩] [0] [(65536, 65536)] _ IX.out PX.out VS.out tv_x rfl (vi_one (by decide)) (by decide) (by decide) (by decide) (by decide) (some [(65536, 69924)]) sv_b).mono ?_
  rintro e w4 ⟨u9, rfl, hv, hB⟩
  have TN := Lib.hid (TN.out.grow hB)
  have TX := Lib.hid (TX.out.grow hB)
  have SG := Lib.hid (SG.out.grow hB)
  have SH := Lib.hid (SH.out.grow hB)
  have IN := Lib.hid (IN.out.grow hB)
  have PN := Lib.hid (PN.out.grow hB)
  have IX := Lib.hid (IX.out.grow hB)
  have PX := Lib.hid (PX.out.grow hB)
  have VS := Lib.hid (VS.out.grow hB)
  have VA := Lib.hid (VA.out.grow hB)
  have HW := Lib.hid (below_then HW.out hB)
  clear hB
  obtain ⟨p8, c8, rfl⟩ : ∃ p c, u9 = .slice p 1 c := hv.cut
  have VB := Lib.hid hv
  clear hv t0 t1 t2 s0 s1
  simp only [Option.isSome_some]
  have hE : Below w4.heap.size w4 (((w4.alloc (.cells #[.int .i64 2, .int .i64 0, .int .i64 0, .int .i64 0, .int .i64 0, .int .i64 5, .int .i64 0, .int .i64 0, .int .i64 0, .int .i64 0] 62)).alloc (.cells #[.int .i64 1] 3)).alloc (.cells #[.int .i64 1, .slice (some ⟨w4.heap.size, 0, none⟩) 2 2, .slice (some ⟨w4.heap.size + 1, 0, none⟩) 1 1] 25)) := allocs_below [.cells #[.int .i64 2, .int .i64 0, .int .i64 0, .int .i64 0, .int .i64 0, .int .i64 5, .int .i64 0, .int .i64 0, .int .i64 0, .int .i64 0] 62, .cells #[.int .i64 1] 3, .cells #[.int .i64 1, .slice (some ⟨w4.heap.size, 0, none⟩) 2 2, .slice (some ⟨w4.heap.size + 1, 0, none⟩) 1 1] 25] w4
  have BQ : Hid (Blk (((w4.alloc (.cells #[.int .i64 2, .int .i64 0, .int .i64 0, .int .i64 0, .int .i64 0, .int .i64 5, .int .i64 0, .int .i64 0, .int .i64 0, .int .i64 0] 62)).alloc (.cells #[.int .i64 1] 3)).alloc (.cells #[.int .i64 1, .slice (some ⟨w4.heap.size, 0, none⟩) 2 2, .slice (some ⟨w4.heap.size + 1, 0, none⟩) 1 1] 25)) (w4.heap.size) (.cells #[.int .i64 2, .int .i64 0, .int .i64 0, .int .i64 0, .int .i64 0, .int .i64 5, .int .i64 0, .int .i64 0, .int .i64 0, .int .i64 0] 62)) := Lib.hid (allocs_at [.cells #[.int .i64 2, .int .i64 0, .int .i64 0, .int .i64 0, .int .i64 0, .int .i64 5, .int .i64 0, .int .i64 0, .int .i64 0, .int .i64 0] 62, .cells #[.int .i64 1] 3, .cells #[.int .i64 1, .slice (some ⟨w4.heap.size, 0, none⟩) 2 2, .slice (some ⟨w4.heap.size + 1, 0, none⟩) 1 1] 25] w4 0 _ rfl)
  have OQ : Hid (Blk (((w4.alloc (.cells #[.int .i64 2, .int .i64 0, .int .i64 0, .int .i64 0, .int .i64 0, .int .i64 5, .int .i64 0, .int .i64 0, .int .i64 0, .int .i64 0] 62)).alloc (.cells #[.int .i64 1] 3)).alloc (.cells #[.int .i64 1, .slice (some ⟨w4.heap.size, 0, none⟩) 2 2, .slice (some ⟨w4.heap.size + 1, 0, none⟩) 1 1] 25)) (w4.heap.size + 1) (.cells #[.int .i64 1] 3)) := Lib.hid (allocs_at [.cells #[.int .i64 2, .int .i64 0, .int .i64 0, .int .i64 0, .int .i64 0, .int .i64 5, .int .i64 0, .int .i64 0, .int .i64 0, .int .i64 0] 62, .cells #[.int .i64 1] 3, .cells #[.int .i64 1, .slice (some ⟨w4.heap.size, 0, none⟩) 2 2, .slice (some ⟨w4.heap.size + 1, 0, none⟩) 1 1] 25] w4 1 _ rfl)
  have TQ : Hid (Blk (((w4.alloc (.cells #[.int .i64 2, .int .i64 0, .int .i64 0, .int .i64 0, .int .i64 0, .int .i64 5, .int .i64 0, .int .i64 0, .int .i64 0, .int .i64 0] 62)).alloc (.cells #[.int .i64 1] 3)).alloc (.cells #[.int .i64 1, .slice (some ⟨w4.heap.size, 0, none⟩) 2 2, .slice (some ⟨w4.heap.size + 1, 0, none⟩) 1 1] 25)) (w4.heap.size + 1 + 1) (.cells #[.int .i64 1, .slice (some ⟨w4.heap.size, 0, none⟩) 2 2, .slice (some ⟨w4.heap.size + 1, 0, none⟩) 1 1] 25)) := Lib.hid (allocs_at [.cells #[.int .i64 2, .int .i64 0, .int .i64 0, .int .i64 0, .int .i64 0, .int .i64 5, .int .i64 0, .int .i64 0, .int .i64 0, .int .i64 0] 62, .cells #[.int .i64 1] 3, .cells #[.int .i64 1, .slice (some ⟨w4.heap.size, 0, none⟩) 2 2, .slice (some ⟨w4.heap.size + 1, 0, none⟩) 1 1] 25] w4 2 _ rfl)
  have TN := Lib.hid (TN.out.grow hE)
  have TX := Lib.hid (TX.out.grow hE)
  have SG := Lib.hid (SG.out.grow hE)
  have SH := Lib.hid (SH.out.grow hE)
  have IN := Lib.hid (IN.out.grow hE)
  have PN := Lib.hid (PN.out.grow hE)
  have IX := Lib.hid (IX.out.grow hE)
  have PX := Lib.hid (PX.out.grow hE)
  have VS := Lib.hid (VS.out.grow hE)
  have VA := Lib.hid (VA.out.grow hE)
  have VB := Lib.hid (VB.out.grow hE)
  have HW := Lib.hid (below_then HW.out hE)
  clear hE
  have IQ := Lib.hid (rx_blk (n := 2) (l := [⟨2, 0, 0, 0, 0⟩, ⟨5, 0, 0, 0, 0⟩]) encI_len BQ.out rfl rfl (by decide))
  have PQ := Lib.hid (rx_blk (n := 1) (enc := enc1) (l := [1]) (fun _ => rfl) OQ.out rfl rfl (by decide))
  clear BQ OQ
  go_wp2_with (fail)
  generalize hWW : World.alloc (World.alloc (World.alloc w4 _) _) _ = W6 at *
  clear hWW
  have k0 := fun g : Grown W6 => heapN_cellj (TQ.out.grow g.h) (k := 0) rfl
  have k1 := fun g : Grown W6 => heapN_cellj (TQ.out.grow g.h) (k := 1) rfl
  have k2 := fun g : Grown W6 => heapN_cellj (TQ.out.grow g.h) (k := 2) rfl
  have h0 := fun g : Grown W6 => heapN_cellj (SG.out.grow g.h) (k := 0) rfl
  have h1 := fun g : Grown W6 => heapN_cellj (SG.out.grow g.h) (k := 1) rfl
  refine region_pred (lk [(48, fun z_ _ => z_ = .agg #[.int .i64 1, .slice (some ⟨w4.heap.size, 0, none⟩) 2 2, .slice (some ⟨w4.heap.size + 1, 0, none⟩) 1 1]), (49, fun z_ _ => z_ = .agg #[.int .i64 6553600, .int .i64 6553600]), (50, fun z_ w' => Vx w' z_ [(6553600, 6553600)]), (51, fun z_ _ => z_ = .agg #[.int .i64 0, .int .i64 65536]), (52, fun z_ w' => ∃ y_, z_ = .tuple #[y_, .bool false] ∧ Vx w' y_ []), (47, fun z_ w' => ∃ y_, z_ = .tuple #[y_, .bool false] ∧ Vx w' y_ []), (53, fun z_ w' => Vx w' z_ []), (54, fun z_ _ => z_ = .bool false), (11, fun z_ w' => Vx w' z_ []), (12, fun z_ _ => z_ = .bool false)]) (by kernel_rfl) (by kernel_rfl) (lk_steady _ ⟨steady_eq _, steady_eq _, fun u w1 w2 hb h => h.grow hb, steady_eq _, fun u w1 w2 hb ⟨y, e, h⟩ => ⟨y, e, h.grow hb⟩, fun u w1 w2 hb ⟨y, e, h⟩ => ⟨y, e, h.grow hb⟩, fun u w1 w2 hb h => h.grow hb, steady_eq _, fun u w1 w2 hb h => h.grow hb, steady_eq _, trivial⟩) ?_ ?_
  · refine ⟨?_, ?_, ?_, ?_, ?_, ?_, ?_, ?_, ?_, ?_, trivial⟩
    · refine ob_plain [10] rfl rfl fun aa g h => ?_
      have yy0 := seen_out (v := .pointer (some ⟨w4.heap.size + 1 + 1, 0, none⟩)) rfl rfl h.1
      have ee0 := getD_of yy0
      exact tupon_value (v := .agg #[.int .i64 1, .slice (some ⟨w4.heap.size, 0, none⟩) 2 2, .slice (some ⟨w4.heap.size + 1, 0, none⟩) 1 1]) (by simp [go_sem, ee0, yy0, k0 g, k1 g, k2 g]) (Below.refl _ _) rfl
    · refine ob_plain [] rfl rfl fun aa g h => ?_
      refine tupon_enter (f := 24) (args := #[.int .i64 6553600]) (by simp [go_sem]) rfl ?_
      exact (point_at 6553600 g.w (by decide) (by decide)).mono fun e w' ⟨he, hB⟩ => ⟨_, he, hB, rfl⟩
    · refine ob_plain [49] rfl rfl fun aa g h => ?_
      obtain ⟨_, yy0, rfl⟩ := seen_in rfl h.1
      have ee0 := getD_of yy0
      exact tupon_value (v := _) (w1 := g.w.alloc (.cells #[.int .i64 6553600, .int .i64 6553600] 45)) (by simp [go_sem, ee0, yy0]) ((Below.refl _ _).alloc (Nat.le_refl _) _) (rx_blk (n := 1) (l := [(6553600, 6553600)]) encB_len (World.alloc_heap_new g.w _) rfl rfl (by decide))
    · refine ob_plain [3] rfl rfl fun aa g h => ?_
      have yy0 := seen_out (v := .pointer (some ⟨w1.heap.size + 1 + 1 + 1 + 1 + 1 + 1, 0, none⟩)) rfl rfl h.1
      have ee0 := getD_of yy0
      exact tupon_value (v := .agg #[.int .i64 0, .int .i64 65536]) (by simp [go_sem, ee0, yy0, h0 g, h1 g]) (Below.refl _ _) rfl
    · refine ob_plain [48, 50, 51] rfl rfl fun aa g h => ?_
      obtain ⟨_, yy0, rfl⟩ := seen_in rfl h.1
      have ee0 := getD_of yy0
      obtain ⟨z50, yy1, hv50⟩ := seen_in rfl h.2.1
      have ee1 := getD_of yy1
      obtain ⟨_, yy2, rfl⟩ := seen_in rfl h.2.2.1
      have ee2 := getD_of yy2
      refine tupon_enter (f := 14) (args := #[.agg #[.int .i64 1, .slice (some ⟨w4.heap.size, 0, none⟩) 2 2, .slice (some ⟨w4.heap.size + 1, 0, none⟩) 1 1], z50, .agg #[.int .i64 0, .int .i64 65536]]) (by simp [go_sem, ee0, yy0, ee1, yy1, ee2, yy2]) rfl ?_
      exact (encl_ok 1 0 65536 _ _ z50 [⟨2, 0, 0, 0, 0⟩, ⟨5, 0, 0, 0, 0⟩] [1] [(6553600, 6553600)] g.w (IQ.out.grow g.h) (PQ.out.grow g.h) hv50 tv_q rfl (vi_one (by decide)) (by decide) (by decide) (by decide) (by decide) none sv_c).mono fun e w' ⟨u9, he, hv, hB⟩ => ⟨_, he, hB, ⟨u9, rfl, hv⟩⟩
    · refine ob_plain [52] rfl rfl fun aa g h => ?_
      obtain ⟨_, yy0, ⟨y52, rfl, hv52⟩⟩ := seen_in rfl h.1
      have ee0 := getD_of yy0
      exact tupon_value (v := .tuple #[y52, .bool false]) (by simp [go_sem, ee0, yy0]) (Below.refl _ _) ⟨_, rfl, hv52⟩
    · refine ob_plain [47] rfl rfl fun aa g h => ?_
      obtain ⟨_, yy0, ⟨y47, rfl, hv47⟩⟩ := seen_in rfl h.1
      have ee0 := getD_of yy0
      exact tupon_value (v := y47) (by simp [go_sem, ee0, yy0]) (Below.refl _ _) hv47
    · refine ob_plain [47] rfl rfl fun aa g h => ?_
      obtain ⟨_, yy0, ⟨y47, rfl, hv47⟩⟩ := seen_in rfl h.1
      have ee0 := getD_of yy0
      exact tupon_value (v := .bool false) (by simp [go_sem, ee0, yy0]) (Below.refl _ _) rfl
    · refine ob_plain [53] rfl rfl fun aa g h => ?_
      obtain ⟨z53, yy0, hv53⟩ := seen_in rfl h.1
      have ee0 := getD_of yy0
      exact tupon_value (v := z53) (by simp [go_sem, ee0, yy0]) (Below.refl _ _) hv53
    · refine ob_plain [54] rfl rfl fun aa g h => ?_
      obtain ⟨_, yy0, rfl⟩ := seen_in rfl h.1
      have ee0 := getD_of yy0
      exact tupon_value (v := .bool false) (by simp [go_sem, ee0, yy0]) (Below.refl _ _) rfl
  rintro w5 hB _ rfl _ rfl z50 hv50 _ rfl _ ⟨y52, rfl, hv52⟩ _ ⟨y47, rfl, hv47⟩ z53 hv53 _ rfl z11 hv11 _ rfl
  simp only [Act.put, List.setIfInBounds_toArray, List.set_cons_succ, List.set_cons_zero, List.filterMap_nil, finP]
  clear k0 k1 k2 h0 h1 hv50 hv52 hv47 hv53 hv11
  have TN := Lib.hid (TN.out.grow hB)
  have TX := Lib.hid (TX.out.grow hB)
  have SG := Lib.hid (SG.out.grow hB)
  have SH := Lib.hid (SH.out.grow hB)
  have IN := Lib.hid (IN.out.grow hB)
  have PN := Lib.hid (PN.out.grow hB)
  have IX := Lib.hid (IX.out.grow hB)
  have PX := Lib.hid (PX.out.grow hB)
  have VS := Lib.hid (VS.out.grow hB)
  have VA := Lib.hid (VA.out.grow hB)
  have VB := Lib.hid (VB.out.grow hB)
  have HW := Lib.hid (below_then HW.out hB)
  clear hB TQ IQ PQ
  have t0 := heapN_cellj TX.out (k := 0) rfl
  have t1 := heapN_cellj TX.out (k := 1) rfl
  have t2 := heapN_cellj TX.out (k := 2) rfl
  have hE : Below w5.heap.size w5 (w5.alloc (.cells #[.int .i64 65536, .int .i64 131072] 45)) := allocs_below [.cells #[.int .i64 65536, .int .i64 131072] 45] w5
  have BB : Hid (Blk (w5.alloc (.cells #[.int .i64 65536, .int .i64 131072] 45)) (w5.heap.size) (.cells #[.int .i64 65536, .int .i64 131072] 45)) := Lib.hid (allocs_at [.cells #[.int .i64 65536, .int .i64 131072] 45] w5 0 _ rfl)
  have TN := Lib.hid (TN.out.grow hE)
  have TX := Lib.hid (TX.out.grow hE)
  have SG := Lib.hid (SG.out.grow hE)
  have SH := Lib.hid (SH.out.grow hE)
  have IN := Lib.hid (IN.out.grow hE)
  have PN := Lib.hid (PN.out.grow hE)
  have IX := Lib.hid (IX.out.grow hE)
  have PX := Lib.hid (PX.out.grow hE)
  have VS := Lib.hid (VS.out.grow hE)
  have VA := Lib.hid (VA.out.grow hE)
  have VB := Lib.hid (VB.out.grow hE)
  have HW := Lib.hid (below_then HW.out hE)
  clear hE
  have VJ := Lib.hid (rx_blk (n := 1) (l := [(65536, 131072)]) encB_len BB.out rfl rfl (by decide))
  clear BB
  have s0 := heapN_cellj SG.out (k := 0) rfl
  have s1 := heapN_cellj SG.out (k := 1) rfl
  go_wp2_with (fail)
  refine (image_vx 1 0 65536 _ _ _ _ [⟨2, 0, 0, 0, 0⟩] [0] [(65536, 65536)] [(65536, 131072)] _ IX.out PX.out VS.out VJ.out tv_x rfl rfl (vi_one (by decide)) (vi_one (by decide)) (by decide) (by decide) (by decide) (by decide)).mono ?_
  rintro e w6 ⟨u13, rfl, hv, hB⟩
  have TN := Lib.hid (TN.out.grow hB)
  have TX := Lib.hid (TX.out.grow hB)
  have SG := Lib.hid (SG.out.grow hB)
  have SH := Lib.hid (SH.out.grow hB)
  have IN := Lib.hid (IN.out.grow hB)
  have PN := Lib.hid (PN.out.grow hB)
  have IX := Lib.hid (IX.out.grow hB)
  have PX := Lib.hid (PX.out.grow hB)
  have VS := Lib.hid (VS.out.grow hB)
  have VA := Lib.hid (VA.out.grow hB)
  have VB := Lib.hid (VB.out.grow hB)
  have VJ := Lib.hid (VJ.out.grow hB)
  have HW := Lib.hid (below_then HW.out hB)
  clear hB
  rw [sv_i] at hv
  obtain ⟨p13, c13, rfl⟩ : ∃ p c, u13 = .slice p 1 c := hv.cut
  have VI13 := Lib.hid hv
  clear hv t0 t1 t2 s0 s1
  clear VJ
  have hE : Below w6.heap.size w6 (w6.alloc (.cells #[.int .i64 0, .int .i64 65536] 45)) := allocs_below [.cells #[.int .i64 0, .int .i64 65536] 45] w6
  have BB : Hid (Blk (w6.alloc (.cells #[.int .i64 0, .int .i64 65536] 45)) (w6.heap.size) (.cells #[.int .i64 0, .int .i64 65536] 45)) := Lib.hid (allocs_at [.cells #[.int .i64 0, .int .i64 65536] 45] w6 0 _ rfl)
  have TN := Lib.hid (TN.out.grow hE)
  have TX := Lib.hid (TX.out.grow hE)
  have SG := Lib.hid (SG.out.grow hE)
  have SH := Lib.hid (SH.out.grow hE)
  have IN := Lib.hid (IN.out.grow hE)
  have PN := Lib.hid (PN.out.grow hE)
  have IX := Lib.hid (IX.out.grow hE)
  have PX := Lib.hid (PX.out.grow hE)
  have VS := Lib.hid (VS.out.grow hE)
  have VA := Lib.hid (VA.out.grow hE)
  have VB := Lib.hid (VB.out.grow hE)
  have VI13 := Lib.hid (VI13.out.grow hE)
  have HW := Lib.hid (below_then HW.out hE)
  clear hE
  have VZ := Lib.hid (rx_blk (n := 1) (l := [(0, 65536)]) encB_len BB.out rfl rfl (by decide))
  clear BB
  go_wp2_with (fail)
  refine (sbox_self _ _ [(0, 65536)] 1 _ VA.out VZ.out rfl).mono ?_
  rintro e w7 ⟨rfl, hB⟩
  have TN := Lib.hid (TN.out.grow hB)
  have TX := Lib.hid (TX.out.grow hB)
  have SG := Lib.hid (SG.out.grow hB)
  have SH := Lib.hid (SH.out.grow hB)
  have IN := Lib.hid (IN.out.grow hB)
  have PN := Lib.hid (PN.out.grow hB)
  have IX := Lib.hid (IX.out.grow hB)
  have PX := Lib.hid (PX.out.grow hB)
  have VS := Lib.hid (VS.out.grow hB)
  have VA := Lib.hid (VA.out.grow hB)
  have VB := Lib.hid (VB.out.grow hB)
  have VI13 := Lib.hid (VI13.out.grow hB)
  have VZ := Lib.hid (VZ.out.grow hB)
  have HW := Lib.hid (below_then HW.out hB)
  clear hB
  clear VZ
  have hE : Below w7.heap.size w7 (w7.alloc (.cells #[.int .i64 65536, .int .i64 69924] 45)) := allocs_below [.cells #[.int .i64 65536, .int .i64 69924] 45] w7
  have BB : Hid (Blk (w7.alloc (.cells #[.int .i64 65536, .int .i64 69924] 45)) (w7.heap.size) (.cells #[.int .i64 65536, .int .i64 69924] 45)) := Lib.hid (allocs_at [.cells #[.int .i64 65536, .int .i64 69924] 45] w7 0 _ rfl)
  have TN := Lib.hid (TN.out.grow hE)
  have TX := Lib.hid (TX.out.grow hE)
  have SG := Lib.hid (SG.out.grow hE)
  have SH := Lib.hid (SH.out.grow hE)
  have IN := Lib.hid (IN.out.grow hE)
  have PN := Lib.hid (PN.out.grow hE)
  have IX := Lib.hid (IX.out.grow hE)
  have PX := Lib.hid (PX.out.grow hE)
  have VS := Lib.hid (VS.out.grow hE)
  have VA := Lib.hid (VA.out.grow hE)
  have VB := Lib.hid (VB.out.grow hE)
  have VI13 := Lib.hid (VI13.out.grow hE)
  have HW := Lib.hid (below_then HW.out hE)
  clear hE
  have VZ := Lib.hid (rx_blk (n := 1) (l := [(65536, 69924)]) encB_len BB.out rfl rfl (by decide))
  clear BB
  go_wp2_with (fail)
  refine (sbox_self _ _ [(65536, 69924)] 1 _ VB.out VZ.out rfl).mono ?_
  rintro e w8 ⟨rfl, hB⟩
  have TN := Lib.hid (TN.out.grow hB)
  have TX := Lib.hid (TX.out.grow hB)
  have SG := Lib.hid (SG.out.grow hB)
  have SH := Lib.hid (SH.out.grow hB)
  have IN := Lib.hid (IN.out.grow hB)
  have PN := Lib.hid (PN.out.grow hB)
  have IX := Lib.hid (IX.out.grow hB)
  have PX := Lib.hid (PX.out.grow hB)
  have VS := Lib.hid (VS.out.grow hB)
  have VA := Lib.hid (VA.out.grow hB)
  have VB := Lib.hid (VB.out.grow hB)
  have VI13 := Lib.hid (VI13.out.grow hB)
  have VZ := Lib.hid (VZ.out.grow hB)
  have HW := Lib.hid (below_then HW.out hB)
  clear hB
  clear VZ
  have hE : Below w8.heap.size w8 (w8.alloc (.cells #[.int .i64 65536, .int .i64 196608] 45)) := allocs_below [.cells #[.int .i64 65536, .int .i64 196608] 45] w8
  have BB : Hid (Blk (w8.alloc (.cells #[.int .i64 65536, .int .i64 196608] 45)) (w8.heap.size) (.cells #[.int .i64 65536, .int .i64 196608] 45)) := Lib.hid (allocs_at [.cells #[.int .i64 65536, .int .i64 196608] 45] w8 0 _ rfl)
  have TN := Lib.hid (TN.out.grow hE)
  have TX := Lib.hid (TX.out.grow hE)
  have SG := Lib.hid (SG.out.grow hE)
  have SH := Lib.hid (SH.out.grow hE)
  have IN := Lib.hid (IN.out.grow hE)
  have PN := Lib.hid (PN.out.grow hE)
  have IX := Lib.hid (IX.out.grow hE)
  have PX := Lib.hid (PX.out.grow hE)
  have VS := Lib.hid (VS.out.grow hE)
  have VA := Lib.hid (VA.out.grow hE)
  have VB := Lib.hid (VB.out.grow hE)
  have VI13 := Lib.hid (VI13.out.grow hE)
  have HW := Lib.hid (below_then HW.out hE)
  clear hE
  have VZ := Lib.hid (rx_blk (n := 1) (l := [(65536, 196608)]) encB_len BB.out rfl rfl (by decide))
  clear BB
  go_wp2_with (fail)
  refine (sbox_self _ _ [(65536, 196608)] 1 _ VI13.out VZ.out rfl).mono ?_
  rintro e w9 ⟨rfl, hB⟩
  have TN := Lib.hid (TN.out.grow hB)
  have TX := Lib.hid (TX.out.grow hB)
  have SG := Lib.hid (SG.out.grow hB)
  have SH := Lib.hid (SH.out.grow hB)
  have IN := Lib.hid (IN.out.grow hB)
  have PN := Lib.hid (PN.out.grow hB)
  have IX := Lib.hid (IX.out.grow hB)
  have PX := Lib.hid (PX.out.grow hB)
  have VS := Lib.hid (VS.out.grow hB)
  have VA := Lib.hid (VA.out.grow hB)
  have VB := Lib.hid (VB.out.grow hB)
  have VI13 := Lib.hid (VI13.out.grow hB)
  have VZ := Lib.hid (VZ.out.grow hB)
  have HW := Lib.hid (below_then HW.out hB)
  clear hB
  clear VZ
  have t0 := heapN_cellj TX.out (k := 0) rfl
  have t1 := heapN_cellj TX.out (k := 1) rfl
  have t2 := heapN_cellj TX.out (k := 2) rfl
  have hE : Below w9.heap.size w9 (w9.alloc (.cells #[.int .i64 65536, .int .i64 70000] 45)) := allocs_below [.cells #[.int .i64 65536, .int .i64 70000] 45] w9
  have BB : Hid (Blk (w9.alloc (.cells #[.int .i64 65536, .int .i64 70000] 45)) (w9.heap.size) (.cells #[.int .i64 65536, .int .i64 70000] 45)) := Lib.hid (allocs_at [.cells #[.int .i64 65536, .int .i64 70000] 45] w9 0 _ rfl)
  have TN := Lib.hid (TN.out.grow hE)
  have TX := Lib.hid (TX.out.grow hE)
  have SG := Lib.hid (SG.out.grow hE)
  have SH := Lib.hid (SH.out.grow hE)
  have IN := Lib.hid (IN.out.grow hE)
  have PN := Lib.hid (PN.out.grow hE)
  have IX := Lib.hid (IX.out.grow hE)
  have PX := Lib.hid (PX.out.grow hE)
  have VS := Lib.hid (VS.out.grow hE)
  have VA := Lib.hid (VA.out.grow hE)
  have VB := Lib.hid (VB.out.grow hE)
  have VI13 := Lib.hid (VI13.out.grow hE)
  have HW := Lib.hid (below_then HW.out hE)
  clear hE
  have VZ := Lib.hid (rx_blk (n := 1) (l := [(65536, 70000)]) encB_len BB.out rfl rfl (by decide))
  clear BB
  have s0 := heapN_cellj SH.out (k := 0) rfl
  have s1 := heapN_cellj SH.out (k := 1) rfl
  go_wp2_with (fail)
  refine (val_ok 1 0 4096 _ _ _ _ [⟨2, 0, 0, 0, 0⟩] [0] [(65536, 65536)] [(65536, 70000)] _ _ IX.out PX.out VS.out VZ.out tv_x rfl rfl (vi_one (by decide)) (vi_one (by decide)) (by decide) (by decide) (by decide) (by decide) rfl true sv_v).mono ?_
  rintro e w10 ⟨rfl, hB⟩
  have TN := Lib.hid (TN.out.grow hB)
  have TX := Lib.hid (TX.out.grow hB)
  have SG := Lib.hid (SG.out.grow hB)
  have SH := Lib.hid (SH.out.grow hB)
  have IN := Lib.hid (IN.out.grow hB)
  have PN := Lib.hid (PN.out.grow hB)
  have IX := Lib.hid (IX.out.grow hB)
  have PX := Lib.hid (PX.out.grow hB)
  have VS := Lib.hid (VS.out.grow hB)
  have VA := Lib.hid (VA.out.grow hB)
  have VB := Lib.hid (VB.out.grow hB)
  have VI13 := Lib.hid (VI13.out.grow hB)
  have VZ := Lib.hid (VZ.out.grow hB)
  have HW := Lib.hid (below_then HW.out hB)
  clear hB
  clear t0 t1 t2 s0 s1
  clear VZ
  have t0 := heapN_cellj TX.out (k := 0) rfl
  have t1 := heapN_cellj TX.out (k := 1) rfl
  have t2 := heapN_cellj TX.out (k := 2) rfl
  have hE : Below w10.heap.size w10 (w10.alloc (.cells #[.int .i64 65536, .int .i64 69000] 45)) := allocs_below [.cells #[.int .i64 65536, .int .i64 69000] 45] w10
  have BB : Hid (Blk (w10.alloc (.cells #[.int .i64 65536, .int .i64 69000] 45)) (w10.heap.size) (.cells #[.int .i64 65536, .int .i64 69000] 45)) := Lib.hid (allocs_at [.cells #[.int .i64 65536, .int .i64 69000] 45] w10 0 _ rfl)
  have TN := Lib.hid (TN.out.grow hE)
  have TX := Lib.hid (TX.out.grow hE)
  have SG := Lib.hid (SG.out.grow hE)
  have SH := Lib.hid (SH.out.grow hE)
  have IN := Lib.hid (IN.out.grow hE)
  have PN := Lib.hid (PN.out.grow hE)
  have IX := Lib.hid (IX.out.grow hE)
  have PX := Lib.hid (PX.out.grow hE)
  have VS := Lib.hid (VS.out.grow hE)
  have VA := Lib.hid (VA.out.grow hE)
  have VB := Lib.hid (VB.out.grow hE)
  have VI13 := Lib.hid (VI13.out.grow hE)
  have HW := Lib.hid (below_then HW.out hE)
  clear hE
  have VZ := Lib.hid (rx_blk (n := 1) (l := [(65536, 69000)]) encB_len BB.out rfl rfl (by decide))
  clear BB
  have s0 := heapN_cellj SH.out (k := 0) rfl
  have s1 := heapN_cellj SH.out (k := 1) rfl
  go_wp2_with (fail)
  refine (val_ok 1 0 4096 _ _ _ _ [⟨2, 0, 0, 0, 0⟩] [0] [(65536, 65536)] [(65536, 69000)] _ _ IX.out PX.out VS.out VZ.out tv_x rfl rfl (vi_one (by decide)) (vi_one (by decide)) (by decide) (by decide) (by decide) (by decide) rfl false sv_n).mono ?_
  rintro e w11 ⟨rfl, hB⟩
  have TN := Lib.hid (TN.out.grow hB)
  have TX := Lib.hid (TX.out.grow hB)
  have SG := Lib.hid (SG.out.grow hB)
  have SH := Lib.hid (SH.out.grow hB)
  have IN := Lib.hid (IN.out.grow hB)
  have PN := Lib.hid (PN.out.grow hB)
  have IX := Lib.hid (IX.out.grow hB)
  have PX := Lib.hid (PX.out.grow hB)
  have VS := Lib.hid (VS.out.grow hB)
  have VA := Lib.hid (VA.out.grow hB)
  have VB := Lib.hid (VB.out.grow hB)
  have VI13 := Lib.hid (VI13.out.grow hB)
  have VZ := Lib.hid (VZ.out.grow hB)
  have HW := Lib.hid (below_then HW.out hB)
  clear hB
  clear t0 t1 t2 s0 s1
  clear VZ
  go_wp2_with (fail)
  go_ret
  exact ⟨rfl, HW.out⟩
end Go.Proofs.Ytecmgiihacigaaa

namespace Go.Proofs.Ytecmgiihacigaaa
open Go.ChangeShapes Go.WideShapes Go.ChangeAt Go.RowKit Go.Maps
set_option linter.unusedVariables false
set_option linter.unusedSimpArgs false
set_option maxRecDepth 100000
attribute [local irreducible] Calls
theorem new_at (a b : Int) (ha : Num a) (hb : Num b) (w : World) : Calls Try.prog 27 #[.int .i64 a, .int .i64 b] w fun e w' => e = .returned (.agg #[.int .i64 a, .int .i64 b]) ∧ Below w.heap.size w w' := by
  have h := r2new a b w
  rw [show mkLo a b = a from if_pos ⟨ha, hb⟩, show mkHi a b = b from if_pos ⟨ha, hb⟩] at h
  exact h
theorem boxI_bd (l : List (Int × Int)) (n : Nat) {d : Int} (hd : 1 ≤ d) : ∀ p ∈ boxI l n d, -1048576 < p.1 ∧ p.1 < 1048576 ∧ p.1 ≤ p.2 ∧ p.2 < p.1 + d := by
  intro p hp
  unfold boxI at hp
  rw [List.mem_map] at hp
  obtain ⟨i, _, rfl⟩ := hp
  exact near_bd _ hd
def wid (l : List (Int × Int)) (bs : List Int) (k : Nat) : Int × Int := ((l.getD k (0, 0)).1 - bs.getD k 0, (l.getD k (0, 0)).2 + bs.getD (5 - k) 0)
def widL (l : List (Int × Int)) (bs : List Int) (k : Nat) : List (Int × Int) := (List.range k).map (wid l bs)
theorem widL_snoc (l : List (Int × Int)) (bs : List Int) (k : Nat) : widL l bs (k + 1) = widL l bs k ++ [wid l bs k] := by
  unfold widL
  rw [List.range_succ, List.map_append]
  rfl
theorem widL_len (l : List (Int × Int)) (bs : List Int) (k : Nat) : (widL l bs k).length = k := by simp [widL]
theorem bs_bd {bs : List Int} (h : ∀ x ∈ bs, IntKind.has .u16 x) (k : Nat) : 0 ≤ bs.getD k 0 ∧ bs.getD k 0 ≤ 65535 := by
  rw [List.getD_eq_getElem?_getD]
  cases e : bs[k]? with
  | none => exact ⟨Int.le_refl _, by decide⟩
  | some x =>
    have := h x (List.mem_of_getElem? e)
    exact this
theorem wid_sb {l : List (Int × Int)} {bs : List Int} {d : Int} (hd : d ≤ 1000000) (hl : ∀ p ∈ l, -1048576 < p.1 ∧ p.1 < 1048576 ∧ p.1 ≤ p.2 ∧ p.2 < p.1 + d) (hb : ∀ x ∈ bs, IntKind.has .u16 x) : SbL l (widL l bs l.length) := by
  refine ⟨(widL_len _ _ _).symm, fun i p q hp hq => ?_⟩
  have hi := (List.getElem?_eq_some_iff.1 hp).1
  unfold widL at hq
  rw [List.getElem?_map, List.getElem?_range hi] at hq
  cases hq
  have h1 := hl p (List.mem_of_getElem? hp)
  have h2 := bs_bd hb i
  have h3 := bs_bd hb (5 - i)
  have hg : l.getD i (0, 0) = p := by rw [List.getD_eq_getElem?_getD, hp]; rfl
  have e1 : (wid l bs i).1 = p.1 - bs.getD i 0 := by unfold wid; rw [hg]
  have e2 : (wid l bs i).2 = p.2 + bs.getD (5 - i) 0 := by unfold wid; rw [hg]
  unfold VI Num SbI Sb
  rw [e1, e2]
  omega
theorem by_at {W : World} {b0 b1 b2 b3 b4 b5 : Int} {b : Nat} {t : TypeId} (h : W.heap[b]? = some (.cells #[.int .u16 b0, .int .u16 b1, .int .u16 b2, .int .u16 b3, .int .u16 b4, .int .u16 b5] t (0, 0))) {k : Nat} (hk : k < 6) : W.cell? ⟨b, k, none⟩ = some (.int .u16 ([b0, b1, b2, b3, b4, b5].getD k 0)) := by
  refine heapN_cellj h ?_
  match k, hk with
  | 0, _ => rfl
  | 1, _ => rfl
  | 2, _ => rfl
  | 3, _ => rfl
  | 4, _ => rfl
  | 5, _ => rfl
theorem wrapI (n : Int) (h1 : -4611686018427387904 ≤ n) (h2 : n ≤ 4611686018427387904) : IntKind.i64.wrap n = n := wrapN n (by omega) (by omega)
/-- The start and the length of a step. -/
def stpT (t : Int) : Int := t.tmod 1048576
def stpH (h : Int) : Int := 1 + (h.tmod 32768 + 32768).tmod 32768
theorem stpT_bd (t : Int) : -1048576 ≤ stpT t ∧ stpT t ≤ 1048576 := by
  have h1 := Int.lt_tmod_of_pos t (show (0 : Int) < 1048576 by decide)
  have h2 := Int.tmod_lt_of_pos t (show (0 : Int) < 1048576 by decide)
  unfold stpT
  omega
theorem stpH_bd (h : Int) : 1 ≤ stpH h ∧ stpH h ≤ 32768 := by
  have h1 := Int.lt_tmod_of_pos h (show (0 : Int) < 32768 by decide)
  have h2 := Int.tmod_lt_of_pos h (show (0 : Int) < 32768 by decide)
  have h3 : 0 ≤ h.tmod 32768 + 32768 := by omega
  have h4 := Int.tmod_lt_of_pos (h.tmod 32768 + 32768) (show (0 : Int) < 32768 by decide)
  have h5 := Int.tmod_nonneg 32768 h3
  unfold stpH
  omega
theorem step_ok (t h : Int) (w : World) : Calls Try.prog 33 #[.int .i64 t, .int .i64 h, .int .i64 32768] w fun e w' => e = .returned (.agg #[.int .i64 (stpT t), .int .i64 (stpH h)]) ∧ Below w.heap.size w w' := by
  have h1 := Int.lt_tmod_of_pos t (show (0 : Int) < 1048576 by decide)
  have h2 := Int.tmod_lt_of_pos t (show (0 : Int) < 1048576 by decide)
  have h3 := Int.lt_tmod_of_pos h (show (0 : Int) < 32768 by decide)
  have h4 := Int.tmod_lt_of_pos h (show (0 : Int) < 32768 by decide)
  have h5 := stpH_bd h
  have U1 : IntKind.i64.wrap (t.tmod 1048576) = t.tmod 1048576 := wrapI _ (by omega) (by omega)
  have U2 : IntKind.i64.wrap (h.tmod 32768) = h.tmod 32768 := wrapI _ (by omega) (by omega)
  have U3 : IntKind.i64.wrap (h.tmod 32768 + 32768) = h.tmod 32768 + 32768 := wrapI _ (by omega) (by omega)
  have U4 : IntKind.i64.wrap ((h.tmod 32768 + 32768).tmod 32768) = (h.tmod 32768 + 32768).tmod 32768 := by unfold stpH at h5; exact wrapI _ (by omega) (by omega)
  have U5 : IntKind.i64.wrap (1 + (h.tmod 32768 + 32768).tmod 32768) = stpH h := by unfold stpH at h5 ⊢; exact wrapI _ (by omega) (by omega)
  clear h1 h2 h3 h4 h5
  go_enter Try.func33, Try.ntmps33
  go_wp2_with (fail)
  have hs := World.alloc_heap_new w (.cells #[.int .i64 (t.tmod 1048576), .int .i64 (stpH h)] 33)
  have x0 := heapN_cellj hs (k := 0) rfl
  have x1 := heapN_cellj hs (k := 1) rfl
  exact bodyPost_ret (v := .agg #[.int .i64 (t.tmod 1048576), .int .i64 (stpH h)]) (by simp [results, Try.results33, go_sem, x0, x1]) rfl ⟨rfl, (Below.refl _ _).alloc (Nat.le_refl _) _⟩
theorem heap_ne {W : World} {X Y o : Nat} {v : Value} {ob : Obj} (h : W.heap[Y]? = some ob) (hne : Y ≠ X) : (W.setCell ⟨X, o, none⟩ v).heap[Y]? = some ob :=
  ((grownBy_setN W ⟨X, o, none⟩ v).block Y (Array.getElem?_eq_some_iff.1 h).1 (fun e => hne (Option.some.inj e))).trans h
theorem own_setX {W : World} {base n sz X : Nat} {v : Value} {t : TypeId} {xs : List Value} (h : W.ownsRow base t sz v n xs) (hX : X < base) (o : Nat) (y : Value) : (W.setCell ⟨X, o, none⟩ y).ownsRow base t sz v n xs :=
  h.kept (grownBy_setN W ⟨X, o, none⟩ y) (by
    cases e : v.ownBlock with
    | none => exact .inl rfl
    | some b => exact .inr (fun e2 => by have := (h.lt b e).1; have e3 : b = X := Option.some.inj e2; omega))
theorem box_vx {W : World} {B N c : Nat} {p : Option Addr} {l : List (Int × Int)} {d : Int} (h : W.ownsRow B 45 2 (.slice p N c) N (cr encB (boxI l N d))) (hN : N ≤ 6) : Vx W (.slice p N c) (boxI l N d) := by
  have hl := boxI_len l N d
  have h2 := h
  rw [← hl] at h2
  have h3 := Rx.own encB_len (l := boxI l N d) (by rw [hl] at h2 ⊢; exact h) (by rw [hl]; unfold maxLen; omega)
  exact h3
set_option maxHeartbeats 16000000 in
theorem made_own (n0 t ln : Int) (vl vo vx : Value) (Lr : List Is) (outr : List Int) (Xr : List (Int × Int)) (w : World) (hl : Ix w vl Lr) (ho : Px w vo outr) (hx : Vx w vx Xr) :
    Calls Try.prog 12 #[.agg #[.int .i64 n0, vl, vo, vx, .int .i64 t, .int .i64 ln]] w fun e w' => ∃ (N : Nat) (T : List Is) (O : List Int) (pu pr px : Option Addr) (cu cr' cx : Nat), e = .returned (.tuple #[.agg #[.int .i64 N, .slice pu T.length cu, .slice pr N cr'], .slice px N cx, .agg #[.int .i64 (stpT t), .int .i64 (stpH ln)]]) ∧
      w'.ownsRow w.heap.size 62 5 (.slice pu T.length cu) T.length (cr encI T) ∧ w'.ownsRow w.heap.size 3 1 (.slice pr N cr') N (cr enc1 O) ∧ O.length = N ∧ w'.ownsRow w.heap.size 45 2 (.slice px N cx) N (cr encB (boxI Xr N 65536)) ∧ tvB N T O = true ∧ N ≤ 3 ∧ T.length ≤ 20 ∧ Below w.heap.size w w' := by
  obtain ⟨pl, cl, rfl⟩ := hl.cut
  obtain ⟨po, co, rfl⟩ := ho.cut
  obtain ⟨px, cx, rfl⟩ := hx.cut
  have hE : Below w.heap.size w (((w.alloc (.cells #[.int .i64 n0, .slice pl Lr.length cl, .slice po outr.length co, .slice px Xr.length cx, .int .i64 t, .int .i64 ln] 28)).alloc (.cells #[.int .i64 0, .slice none 0 0, .slice none 0 0] 25)).alloc (.cells #[.int .i64 0, .int .i64 0] 33)) := allocs_below [.cells #[.int .i64 n0, .slice pl Lr.length cl, .slice po outr.length co, .slice px Xr.length cx, .int .i64 t, .int .i64 ln] 28, .cells #[.int .i64 0, .slice none 0 0, .slice none 0 0] 25, .cells #[.int .i64 0, .int .i64 0] 33] w
  have HQ := Lib.hid (show Blk (((w.alloc (.cells #[.int .i64 n0, .slice pl Lr.length cl, .slice po outr.length co, .slice px Xr.length cx, .int .i64 t, .int .i64 ln] 28)).alloc (.cells #[.int .i64 0, .slice none 0 0, .slice none 0 0] 25)).alloc (.cells #[.int .i64 0, .int .i64 0] 33)) w.heap.size (.cells #[.int .i64 n0, .slice pl Lr.length cl, .slice po outr.length co, .slice px Xr.length cx, .int .i64 t, .int .i64 ln] 28) from allocs_at [.cells #[.int .i64 n0, .slice pl Lr.length cl, .slice po outr.length co, .slice px Xr.length cx, .int .i64 t, .int .i64 ln] 28, .cells #[.int .i64 0, .slice none 0 0, .slice none 0 0] 25, .cells #[.int .i64 0, .int .i64 0] 33] w 0 _ rfl)
  have HT := Lib.hid (show Blk (((w.alloc (.cells #[.int .i64 n0, .slice pl Lr.length cl, .slice po outr.length co, .slice px Xr.length cx, .int .i64 t, .int .i64 ln] 28)).alloc (.cells #[.int .i64 0, .slice none 0 0, .slice none 0 0] 25)).alloc (.cells #[.int .i64 0, .int .i64 0] 33)) (w.heap.size + 1) (.cells #[.int .i64 0, .slice none 0 0, .slice none 0 0] 25) from allocs_at [.cells #[.int .i64 n0, .slice pl Lr.length cl, .slice po outr.length co, .slice px Xr.length cx, .int .i64 t, .int .i64 ln] 28, .cells #[.int .i64 0, .slice none 0 0, .slice none 0 0] 25, .cells #[.int .i64 0, .int .i64 0] 33] w 1 _ rfl)
  have HS := Lib.hid (show Blk (((w.alloc (.cells #[.int .i64 n0, .slice pl Lr.length cl, .slice po outr.length co, .slice px Xr.length cx, .int .i64 t, .int .i64 ln] 28)).alloc (.cells #[.int .i64 0, .slice none 0 0, .slice none 0 0] 25)).alloc (.cells #[.int .i64 0, .int .i64 0] 33)) (w.heap.size + 2) (.cells #[.int .i64 0, .int .i64 0] 33) from allocs_at [.cells #[.int .i64 n0, .slice pl Lr.length cl, .slice po outr.length co, .slice px Xr.length cx, .int .i64 t, .int .i64 ln] 28, .cells #[.int .i64 0, .slice none 0 0, .slice none 0 0] 25, .cells #[.int .i64 0, .int .i64 0] 33] w 2 _ rfl)
  have HL := Lib.hid (hl.grow hE)
  have HO := Lib.hid (ho.grow hE)
  have HXV := Lib.hid (hx.grow hE)
  have HW := Lib.hid hE
  have q0 := heapN_cellj HQ.out (k := 0) rfl
  have q1 := heapN_cellj HQ.out (k := 1) rfl
  have q2 := heapN_cellj HQ.out (k := 2) rfl
  have hs3 : (((w.alloc (.cells #[.int .i64 n0, .slice pl Lr.length cl, .slice po outr.length co, .slice px Xr.length cx, .int .i64 t, .int .i64 ln] 28)).alloc (.cells #[.int .i64 0, .slice none 0 0, .slice none 0 0] 25)).alloc (.cells #[.int .i64 0, .int .i64 0] 33)).heap.size = w.heap.size + 3 := by simp only [World.size_alloc]
  clear hE hl ho hx
  go_enter Try.func12, Try.ntmps12
  go_wp2_with (fail)
  refine (made8_ok n0 _ _ Lr outr 20 _ HL.out HO.out (by decide) (by decide)).mono ?_
  rintro e w2 ⟨N, T, O, u, r, rfl, hu, hr, htv, hN3, hT1, hT20, hB⟩
  rw [hs3] at hu hr
  clear hs3
  obtain ⟨hn1, hn6, h400, hon, hvl, hout⟩ := tv_cases htv
  obtain ⟨m, hm⟩ : ∃ m, O.length = m := ⟨_, rfl⟩
  have hNm : N = m := by omega
  subst hNm
  obtain ⟨pu, cu, rfl⟩ := own_slice hu
  rw [hm] at hr
  obtain ⟨pr, cr', rfl⟩ := own_slice hr
  have hS : Below w2.heap.size w2 (w2.alloc (.cells #[.int .i64 N, .slice pu T.length cu, .slice pr N cr'] 25)) := (Below.refl _ _).alloc (Nat.le_refl _) _
  have hBS := hB.trans (hS.mono hB.size)
  have HC := Lib.hid (show Blk (w2.alloc (.cells #[.int .i64 N, .slice pu T.length cu, .slice pr N cr'] 25)) w2.heap.size (.cells #[.int .i64 N, .slice pu T.length cu, .slice pr N cr'] 25) from World.alloc_heap_new w2 _)
  have HU := Lib.hid (hu.alloc (.cells #[.int .i64 N, .slice pu T.length cu, .slice pr N cr'] 25))
  have HR := Lib.hid (hr.alloc (.cells #[.int .i64 N, .slice pu T.length cu, .slice pr N cr'] 25))
  have HQ := Lib.hid (HQ.out.grow hBS)
  have HT := Lib.hid (HT.out.grow hBS)
  have HS := Lib.hid (HS.out.grow hBS)
  have HXV := Lib.hid (HXV.out.grow hBS)
  have HW := Lib.hid (below_then HW.out hBS)
  have HTV := Lib.hid htv
  have HM := Lib.hid hm
  clear hB hu hr htv q0 q1 q2 HL HO hon hm hn1 hn6 h400 hvl hout hS hBS hT1
  go_wp2_with (fail)
  generalize hWc : World.alloc w2 _ = W5 at *
  clear hWc
  have q3 := fun g : Grown W5 => heapN_cellj (HQ.out.grow g.h) (k := 3) rfl
  have q4 := fun g : Grown W5 => heapN_cellj (HQ.out.grow g.h) (k := 4) rfl
  have q5 := fun g : Grown W5 => heapN_cellj (HQ.out.grow g.h) (k := 5) rfl
  have k0 := fun g : Grown W5 => heapN_cellj (HC.out.grow g.h) (k := 0) rfl
  have k1 := fun g : Grown W5 => heapN_cellj (HC.out.grow g.h) (k := 1) rfl
  have k2 := fun g : Grown W5 => heapN_cellj (HC.out.grow g.h) (k := 2) rfl
  refine region_pred_n 11 (lk [(9, fun z_ _ => z_ = .agg #[.int .i64 N, .slice pu T.length cu, .slice pr N cr']), (10, fun z_ _ => z_ = .pointer (some ⟨w.heap.size, 3, none⟩)), (11, fun z_ _ => z_ = .slice px Xr.length cx), (12, fun z_ _ => z_ = .pointer (some ⟨w2.heap.size, 0, none⟩)), (13, fun z_ _ => z_ = .int .i64 N), (14, fun z_ w' => ∃ p_ c_, z_ = .slice p_ N c_ ∧ w'.ownsRow W5.heap.size 45 2 (.slice p_ N c_) N (cr encB (boxI Xr N 65536))), (15, fun z_ _ => z_ = .pointer (some ⟨w.heap.size, 4, none⟩)), (16, fun z_ _ => z_ = .int .i64 t), (17, fun z_ _ => z_ = .pointer (some ⟨w.heap.size, 5, none⟩)), (18, fun z_ _ => z_ = .int .i64 ln), (19, fun z_ _ => z_ = .agg #[.int .i64 (stpT t), .int .i64 (stpH ln)])]) (by kernel_rfl) (by kernel_rfl) (lk_steady _ ⟨steady_eq _, steady_eq _, steady_eq _, steady_eq _, steady_eq _, fun u w1 w2 hb ⟨p, c, e, h⟩ => ⟨p, c, e, own_keptN h hb⟩, steady_eq _, steady_eq _, steady_eq _, steady_eq _, steady_eq _, trivial⟩) ?_ ?_
  · refine ⟨?_, ?_, ?_, ?_, ?_, ?_, ?_, ?_, ?_, ?_, ?_, trivial⟩
    · refine ob_plain [5] rfl rfl fun aa g h => ?_
      have yy0 := seen_out (v := .pointer (some ⟨w2.heap.size, 0, none⟩)) rfl rfl h.1
      have ee0 := getD_of yy0
      exact tupon_value (v := .agg #[.int .i64 N, .slice pu T.length cu, .slice pr N cr']) (by simp [go_sem, ee0, yy0, k0 g, k1 g, k2 g]) (Below.refl _ _) rfl
    · refine ob_plain [1] rfl rfl fun aa g h => ?_
      have yy0 := seen_out (v := .pointer (some ⟨w.heap.size, 0, none⟩)) rfl rfl h.1
      have ee0 := getD_of yy0
      exact tupon_value (v := .pointer (some ⟨w.heap.size, 3, none⟩)) (by simp [go_sem, ee0, yy0]) (Below.refl _ _) rfl
    · refine ob_plain [10] rfl rfl fun aa g h => ?_
      obtain ⟨_, yy0, rfl⟩ := seen_in rfl h.1
      have ee0 := getD_of yy0
      exact tupon_value (v := .slice px Xr.length cx) (by simp [go_sem, ee0, yy0, q3 g]) (Below.refl _ _) rfl
    · refine ob_plain [5] rfl rfl fun aa g h => ?_
      have yy0 := seen_out (v := .pointer (some ⟨w2.heap.size, 0, none⟩)) rfl rfl h.1
      have ee0 := getD_of yy0
      exact tupon_value (v := .pointer (some ⟨w2.heap.size, 0, none⟩)) (by simp [go_sem, ee0, yy0]) (Below.refl _ _) rfl
    · refine ob_plain [12] rfl rfl fun aa g h => ?_
      obtain ⟨_, yy0, rfl⟩ := seen_in rfl h.1
      have ee0 := getD_of yy0
      exact tupon_value (v := .int .i64 N) (by simp [go_sem, ee0, yy0, k0 g]) (Below.refl _ _) rfl
    · refine ob_plain [11, 13] rfl rfl fun aa g h => ?_
      obtain ⟨_, yy0, rfl⟩ := seen_in rfl h.1
      have ee0 := getD_of yy0
      obtain ⟨_, yy1, rfl⟩ := seen_in rfl h.2.1
      have ee1 := getD_of yy1
      refine tupon_enter (f := 35) (args := #[.slice px Xr.length cx, .int .i64 N, .int .i64 65536]) (by simp [go_sem, ee0, yy0, ee1, yy1]) rfl ?_
      exact (boxes_ok _ Xr N 65536 g.w (HXV.out.grow g.h) (by omega) (by decide) (by decide)).mono fun e w' ⟨p, c, he, hown, hB⟩ => ⟨_, he, hB, ⟨p, c, rfl, own_base hown g.h.size⟩⟩
    · refine ob_plain [1] rfl rfl fun aa g h => ?_
      have yy0 := seen_out (v := .pointer (some ⟨w.heap.size, 0, none⟩)) rfl rfl h.1
      have ee0 := getD_of yy0
      exact tupon_value (v := .pointer (some ⟨w.heap.size, 4, none⟩)) (by simp [go_sem, ee0, yy0]) (Below.refl _ _) rfl
    · refine ob_plain [15] rfl rfl fun aa g h => ?_
      obtain ⟨_, yy0, rfl⟩ := seen_in rfl h.1
      have ee0 := getD_of yy0
      exact tupon_value (v := .int .i64 t) (by simp [go_sem, ee0, yy0, q4 g]) (Below.refl _ _) rfl
    · refine ob_plain [1] rfl rfl fun aa g h => ?_
      have yy0 := seen_out (v := .pointer (some ⟨w.heap.size, 0, none⟩)) rfl rfl h.1
      have ee0 := getD_of yy0
      exact tupon_value (v := .pointer (some ⟨w.heap.size, 5, none⟩)) (by simp [go_sem, ee0, yy0]) (Below.refl _ _) rfl
    · refine ob_plain [17] rfl rfl fun aa g h => ?_
      obtain ⟨_, yy0, rfl⟩ := seen_in rfl h.1
      have ee0 := getD_of yy0
      exact tupon_value (v := .int .i64 ln) (by simp [go_sem, ee0, yy0, q5 g]) (Below.refl _ _) rfl
    · refine ob_plain [16, 18] rfl rfl fun aa g h => ?_
      obtain ⟨_, yy0, rfl⟩ := seen_in rfl h.1
      have ee0 := getD_of yy0
      obtain ⟨_, yy1, rfl⟩ := seen_in rfl h.2.1
      have ee1 := getD_of yy1
      refine tupon_enter (f := 33) (args := #[.int .i64 t, .int .i64 ln, .int .i64 32768]) (by simp [go_sem, ee0, yy0, ee1, yy1]) rfl ?_
      exact (step_ok t ln g.w).mono fun e w' ⟨he, hB⟩ => ⟨_, he, hB, rfl⟩
  rintro w6 hB _ rfl _ rfl _ rfl _ rfl _ rfl _ ⟨p14, c14, rfl, hv14⟩ _ rfl _ rfl _ rfl _ rfl _ rfl
  simp only [Act.put, List.setIfInBounds_toArray, List.set_cons_succ, List.set_cons_zero, finP, List.drop_succ_cons, List.drop_zero, List.take_zero, List.filterMap_nil]
  have hT6 : w6.heap[w.heap.size + 1]? = some (.cells #[.int .i64 0, .slice none 0 0, .slice none 0 0] 25 (0, 0)) := HT.out.grow hB
  have hS6 : w6.heap[w.heap.size + 2]? = some (.cells #[.int .i64 0, .int .i64 0] 33 (0, 0)) := HS.out.grow hB
  have HU6 := Lib.hid (own_keptN HU.out hB)
  have HR6 := Lib.hid (own_keptN HR.out hB)
  have HV6 := Lib.hid (own_base hv14 (show w.heap.size + 3 ≤ W5.heap.size from by have := (Array.getElem?_eq_some_iff.1 HS.out).1; omega))
  have HW6 := Lib.hid (below_then HW.out hB)
  have a0 := heapN_cellj hT6 (k := 0) rfl
  have a1 := heapN_cellj hT6 (k := 1) rfl
  have a2 := heapN_cellj hT6 (k := 2) rfl
  have b0 := heapN_cellj hS6 (k := 0) rfl
  have b1 := heapN_cellj hS6 (k := 1) rfl
  have z0 : w6.frozen? ⟨w.heap.size + 1, 0, none⟩ = false := by simp [World.frozen?, hT6]
  have z1 : w6.frozen? ⟨w.heap.size + 1, 1, none⟩ = false := by simp [World.frozen?, hT6]
  have z2 : w6.frozen? ⟨w.heap.size + 1, 2, none⟩ = false := by simp [World.frozen?, hT6]
  have y0 : w6.frozen? ⟨w.heap.size + 2, 0, none⟩ = false := by simp [World.frozen?, hS6]
  have y1 : w6.frozen? ⟨w.heap.size + 2, 1, none⟩ = false := by simp [World.frozen?, hS6]
  have HT6 := Lib.hid hT6
  have HS6 := Lib.hid hS6
  clear hB hv14 hT6 hS6 HT HS HU HR HW q3 q4 q5 k0 k1 k2
  go_wp2_with (fail)
  have g5 : ∀ {sz n : Nat} {v : Value} {ty : TypeId} {xs : List Value}, w6.ownsRow (w.heap.size + 3) ty sz v n xs → (((((w6.setCell ⟨w.heap.size + 1, 0, none⟩ (.int .i64 N)).setCell ⟨w.heap.size + 1, 1, none⟩ (.slice pu T.length cu)).setCell ⟨w.heap.size + 1, 2, none⟩ (.slice pr N cr')).setCell ⟨w.heap.size + 2, 0, none⟩ (.int .i64 (stpT t))).setCell ⟨w.heap.size + 2, 1, none⟩ (.int .i64 (stpH ln))).ownsRow (w.heap.size + 3) ty sz v n xs := fun h => own_setX (own_setX (own_setX (own_setX (own_setX h (by omega) _ _) (by omega) _ _) (by omega) _ _) (by omega) _ _) (by omega) _ _
  have hu5 := g5 HU6.out
  have hr5 := g5 HR6.out
  have hv5 := g5 HV6.out
  have hw5 : Below w.heap.size w (((((w6.setCell ⟨w.heap.size + 1, 0, none⟩ (.int .i64 N)).setCell ⟨w.heap.size + 1, 1, none⟩ (.slice pu T.length cu)).setCell ⟨w.heap.size + 1, 2, none⟩ (.slice pr N cr')).setCell ⟨w.heap.size + 2, 0, none⟩ (.int .i64 (stpT t))).setCell ⟨w.heap.size + 2, 1, none⟩ (.int .i64 (stpH ln))) := ((((HW6.out.setCell (p := ⟨w.heap.size + 1, 0, none⟩) (by show w.heap.size ≤ w.heap.size + 1; omega) _).setCell (p := ⟨w.heap.size + 1, 1, none⟩) (by show w.heap.size ≤ w.heap.size + 1; omega) _).setCell (p := ⟨w.heap.size + 1, 2, none⟩) (by show w.heap.size ≤ w.heap.size + 1; omega) _).setCell (p := ⟨w.heap.size + 2, 0, none⟩) (by show w.heap.size ≤ w.heap.size + 2; omega) _).setCell (p := ⟨w.heap.size + 2, 1, none⟩) (by show w.heap.size ≤ w.heap.size + 2; omega) _
  have t3 := cellsT_setN (o := 2) (u := .slice pr N cr') (cellsT_setN (o := 1) (u := .slice pu T.length cu) (cellsT_setN (o := 0) (u := .int .i64 N) HT6.out))
  have t5 := heap_ne (X := w.heap.size + 2) (o := 1) (v := .int .i64 (stpH ln)) (heap_ne (X := w.heap.size + 2) (o := 0) (v := .int .i64 (stpT t)) t3 (by omega)) (by omega)
  have s3 := heap_ne (X := w.heap.size + 1) (o := 2) (v := .slice pr N cr') (heap_ne (X := w.heap.size + 1) (o := 1) (v := .slice pu T.length cu) (heap_ne (X := w.heap.size + 1) (o := 0) (v := .int .i64 N) HS6.out (by omega)) (by omega)) (by omega)
  have s5 := cellsT_setN (o := 1) (u := .int .i64 (stpH ln)) (cellsT_setN (o := 0) (u := .int .i64 (stpT t)) s3)
  have c0 := heapN_cellj t5 (k := 0) (u := .int .i64 N) rfl
  have c1 := heapN_cellj t5 (k := 1) (u := .slice pu T.length cu) rfl
  have c2 := heapN_cellj t5 (k := 2) (u := .slice pr N cr') rfl
  have d0 := heapN_cellj s5 (k := 0) (u := .int .i64 (stpT t)) rfl
  have d1 := heapN_cellj s5 (k := 1) (u := .int .i64 (stpH ln)) rfl
  clear t3 s3 t5 s5
  refine bodyPost_ret (v := .tuple #[.agg #[.int .i64 N, .slice pu T.length cu, .slice pr N cr'], .slice p14 N c14, .agg #[.int .i64 (stpT t), .int .i64 (stpH ln)]]) (by simp [results, Try.results12, go_sem, c0, c1, c2, d0, d1]) rfl ⟨N, T, O, pu, pr, p14, cu, cr', c14, rfl, own_base hu5 (by omega), own_base hr5 (by omega), HM.out, own_base hv5 (by omega), HTV.out, hN3, hT20, hw5⟩
theorem made_ok (n0 t ln : Int) (vl vo vx : Value) (Lr : List Is) (outr : List Int) (Xr : List (Int × Int)) (w : World) (hl : Ix w vl Lr) (ho : Px w vo outr) (hx : Vx w vx Xr) :
    Calls Try.prog 12 #[.agg #[.int .i64 n0, vl, vo, vx, .int .i64 t, .int .i64 ln]] w fun e w' => ∃ (N : Nat) (T : List Is) (O : List Int) (pu pr px : Option Addr) (cu cr' cx : Nat), e = .returned (.tuple #[.agg #[.int .i64 N, .slice pu T.length cu, .slice pr N cr'], .slice px N cx, .agg #[.int .i64 (stpT t), .int .i64 (stpH ln)]]) ∧
      w'.ownsRow w.heap.size 62 5 (.slice pu T.length cu) T.length (cr encI T) ∧ Px w' (.slice pr N cr') O ∧ O.length = N ∧ Vx w' (.slice px N cx) (boxI Xr N 65536) ∧ tvB N T O = true ∧ N ≤ 3 ∧ T.length ≤ 20 ∧ Below w.heap.size w w' :=
  (made_own n0 t ln vl vo vx Lr outr Xr w hl ho hx).mono fun e w' ⟨N, T, O, pu, pr, px, cu, cr', cx, he, h1, h2, h3, h4, h5, h6, h7, h8⟩ => ⟨N, T, O, pu, pr, px, cu, cr', cx, he, h1, Rx.own (enc := enc1) (fun _ => rfl) (by rw [h3]; exact h2) (by rw [h3]; unfold maxLen; omega), h3, box_vx h4 (by omega), h5, h6, h7, h8⟩
set_option maxHeartbeats 16000000 in
theorem widen_ok (vl : Value) (l P : List (Int × Int)) (b0 b1 b2 b3 b4 b5 : Int) (w : World) (hl : Vx w vl l) (h6 : l.length ≤ 6) (hbd : ∀ p ∈ l, -2000000 < p.1 ∧ p.1 ≤ p.2 ∧ p.2 < 2000000) (hby : ∀ x ∈ [b0, b1, b2, b3, b4, b5], IntKind.has .u16 x) (hP : widL l [b0, b1, b2, b3, b4, b5] l.length = P) :
    Calls Try.prog 13 #[vl, .agg #[.int .u16 b0, .int .u16 b1, .int .u16 b2, .int .u16 b3, .int .u16 b4, .int .u16 b5]] w fun e w' => ∃ u, e = .returned u ∧ Vx w' u P ∧ Below w.heap.size w w' := by
  subst hP
  obtain ⟨i0, hi0, hz0, hz1, hz2⟩ := info_parts info_ivB
  obtain ⟨pl, cl, rfl⟩ := hl.cut
  have hE : Below w.heap.size w (w.alloc (.cells #[.int .u16 b0, .int .u16 b1, .int .u16 b2, .int .u16 b3, .int .u16 b4, .int .u16 b5] 30)) := allocs_below [.cells #[.int .u16 b0, .int .u16 b1, .int .u16 b2, .int .u16 b3, .int .u16 b4, .int .u16 b5] 30] w
  have HA := Lib.hid (show Blk ((w.alloc (.cells #[.int .u16 b0, .int .u16 b1, .int .u16 b2, .int .u16 b3, .int .u16 b4, .int .u16 b5] 30)).alloc (.cells #[] 45)) w.heap.size (.cells #[.int .u16 b0, .int .u16 b1, .int .u16 b2, .int .u16 b3, .int .u16 b4, .int .u16 b5] 30) from allocs_at [.cells #[.int .u16 b0, .int .u16 b1, .int .u16 b2, .int .u16 b3, .int .u16 b4, .int .u16 b5] 30, .cells #[] 45] w 0 _ rfl)
  have HE2 : Below w.heap.size w ((w.alloc (.cells #[.int .u16 b0, .int .u16 b1, .int .u16 b2, .int .u16 b3, .int .u16 b4, .int .u16 b5] 30)).alloc (.cells #[] 45)) := allocs_below [.cells #[.int .u16 b0, .int .u16 b1, .int .u16 b2, .int .u16 b3, .int .u16 b4, .int .u16 b5] 30, .cells #[] 45] w
  have HW := Lib.hid HE2
  have HL := Lib.hid hl
  have h0 := own_emptyB (w.alloc (.cells #[.int .u16 b0, .int .u16 b1, .int .u16 b2, .int .u16 b3, .int .u16 b4, .int .u16 b5] 30))
  rw [alloc_sz] at h0
  have HR0 := Lib.hid h0
  have hs5 : w.heap.size + 1 ≤ ((w.alloc (.cells #[.int .u16 b0, .int .u16 b1, .int .u16 b2, .int .u16 b3, .int .u16 b4, .int .u16 b5] 30)).alloc (.cells #[] 45)).heap.size := by rw [alloc_sz, alloc_sz]; omega
  have HS5 := Lib.hid hs5
  clear hs5
  have HBD := Lib.hid hbd
  have HBY := Lib.hid hby
  clear hE HE2 hl hbd hby h0
  go_enter Try.func13, Try.ntmps13
  go_wp2_with (fail)
  generalize hWc : World.alloc (World.alloc w _) _ = W5 at *
  clear hWc
  go_loopw [5, 6] (fun v i wr => ∃ k : Nat, i = .int .i64 k ∧ k ≤ l.length ∧ Hid (wr.ownsRow (w.heap.size + 1) 45 2 v k (cr encB (widL l [b0, b1, b2, b3, b4, b5] k))) ∧ Hid (Below (w.heap.size + 1) W5 wr)) (fun v i _ => l.length - (intOf i).toNat)
  case atStart => exact ⟨0, rfl, Nat.zero_le _, HR0, Lib.hid (Below.refl _ _)⟩
  case round =>
    clear HR0
    obtain ⟨k, rfl, hk, HR, HB⟩ := hrel
    obtain ⟨pv, cv, rfl⟩ := own_slice HR.out
    have HT := Lib.hid (HW.out.trans (HB.out.mono (Nat.le_succ _)))
    by_cases hlt : k < l.length
    · have i2 : (k : Int) < l.length := by omega
      have i6 : (k : Int) < 6 := by omega
      have i7 : ((5 - k : Nat) : Int) < 6 := by omega
      obtain ⟨⟨x, y⟩, hx⟩ : ∃ x, l[k]? = some x := ⟨_, List.getElem?_eq_getElem hlt⟩
      obtain ⟨hx1, hx2, hx3⟩ := HBD.out _ (List.mem_of_getElem? hx)
      dsimp only at hx1 hx2 hx3
      have hw := widL_snoc l [b0, b1, b2, b3, b4, b5] k
      have hgd : l.getD k (0, 0) = (x, y) := by rw [List.getD_eq_getElem?_getD, hx]; rfl
      have hwk : wid l [b0, b1, b2, b3, b4, b5] k = (x - [b0, b1, b2, b3, b4, b5].getD k 0, y + [b0, b1, b2, b3, b4, b5].getD (5 - k) 0) := by unfold wid; rw [hgd]
      have hb1 := bs_bd HBY.out k
      have hb2 := bs_bd HBY.out (5 - k)
      have y1 := fun g : Grown wr => by_at (Blk.grow ((HB.out.block _ (Nat.lt_succ_self _)).trans HA.out) g.h) (k := k) (by omega)
      have y2 := fun g : Grown wr => by_at (Blk.grow ((HB.out.block _ (Nat.lt_succ_self _)).trans HA.out) g.h) (k := 5 - k) (by omega)
      obtain ⟨B1, hB1⟩ : ∃ B1, [b0, b1, b2, b3, b4, b5].getD k 0 = B1 := ⟨_, rfl⟩
      obtain ⟨B2, hB2⟩ : ∃ B2, [b0, b1, b2, b3, b4, b5].getD (5 - k) 0 = B2 := ⟨_, rfl⟩
      rw [hB1] at hb1 y1 hwk
      rw [hB2] at hb2 y2 hwk
      rw [hwk] at hw
      have HWK := Lib.hid hw
      obtain ⟨bl, ol, hpe, hbl, rdl⟩ := vx_rd HL.out hx
      subst hpe
      have f0 := fun g : Grown wr => (rdl ⟨g.w, HT.out.trans (g.h.mono HT.out.size)⟩).1
      have f1 := fun g : Grown wr => (rdl ⟨g.w, HT.out.trans (g.h.mono HT.out.size)⟩).2
      have U1 : IntKind.i64.wrap B1 = B1 := wrapI _ (by omega) (by omega)
      have U2 : IntKind.i64.wrap (x - B1) = x - B1 := wrapI _ (by omega) (by omega)
      have U3 : IntKind.i64.wrap (5 - (k : Int)) = ((5 - k : Nat) : Int) := by rw [wrapI _ (by omega) (by omega)]; omega
      have U4 : IntKind.i64.wrap B2 = B2 := wrapI _ (by omega) (by omega)
      have U5 : IntKind.i64.wrap (y + B2) = y + B2 := wrapI _ (by omega) (by omega)
      have KN := Lib.hid (fun w => new_at (x - B1) (y + B2) (by unfold Num; omega) (by unfold Num; omega) w)
      clear hx hw hgd hwk hB1 hB2 rdl hx1 hx2 hx3 hb1 hb2
      go_wp2_with (fail)
      refine region_pred_n 24 (lk [(14, fun z_ _ => z_ = .slice pv k cv), (15, fun z_ _ => z_ = .slice (some ⟨bl, ol, none⟩) l.length cl), (16, fun z_ _ => z_ = .int .i64 (k : Int)), (17, fun z_ _ => z_ = .pointer (some ⟨bl, ol + k * 2, none⟩)), (18, fun z_ _ => z_ = .pointer (some ⟨bl, ol + k * 2, none⟩)), (19, fun z_ _ => z_ = .int .i64 x), (20, fun z_ _ => z_ = .int .i64 (k : Int)), (21, fun z_ _ => z_ = .pointer (some ⟨w.heap.size, k, none⟩)), (22, fun z_ _ => z_ = .int .u16 B1), (23, fun z_ _ => z_ = .int .i64 B1), (24, fun z_ _ => z_ = .int .i64 (x - B1)), (25, fun z_ _ => z_ = .slice (some ⟨bl, ol, none⟩) l.length cl), (26, fun z_ _ => z_ = .int .i64 (k : Int)), (27, fun z_ _ => z_ = .pointer (some ⟨bl, ol + k * 2, none⟩)), (28, fun z_ _ => z_ = .pointer (some ⟨bl, ol + k * 2 + 1, none⟩)), (29, fun z_ _ => z_ = .int .i64 y), (30, fun z_ _ => z_ = .int .i64 (k : Int)), (31, fun z_ _ => z_ = .int .i64 ((5 - k : Nat) : Int)), (32, fun z_ _ => z_ = .pointer (some ⟨w.heap.size, 5 - k, none⟩)), (33, fun z_ _ => z_ = .int .u16 B2), (34, fun z_ _ => z_ = .int .i64 B2), (35, fun z_ _ => z_ = .int .i64 (y + B2)), (36, fun z_ _ => z_ = .agg #[.int .i64 (x - B1), .int .i64 (y + B2)]), (37, fun z_ w' => ∃ X_, z_ = .slice (some ⟨X_, 0, none⟩) 1 1 ∧ wr.heap.size ≤ X_ ∧ w'.heap[X_]? = some (.cells #[.int .i64 (x - B1), .int .i64 (y + B2)] 45 (0, 0)))]) (by kernel_rfl) (by kernel_rfl) (lk_steady _ ⟨steady_eq _, steady_eq _, steady_eq _, steady_eq _, steady_eq _, steady_eq _, steady_eq _, steady_eq _, steady_eq _, steady_eq _, steady_eq _, steady_eq _, steady_eq _, steady_eq _, steady_eq _, steady_eq _, steady_eq _, steady_eq _, steady_eq _, steady_eq _, steady_eq _, steady_eq _, steady_eq _, fun u w1 w2 hb ⟨X, e, h1, h2⟩ => ⟨X, e, h1, (hb.block X (Array.getElem?_eq_some_iff.1 h2).1).trans h2⟩, trivial⟩) ?_ ?_
      · refine ⟨?_, ?_, ?_, ?_, ?_, ?_, ?_, ?_, ?_, ?_, ?_, ?_, ?_, ?_, ?_, ?_, ?_, ?_, ?_, ?_, ?_, ?_, ?_, ?_, trivial⟩
        · refine ob_plain [5] rfl rfl fun aa g h => ?_
          have yy0 := seen_out (v := .slice pv k cv) rfl rfl h.1
          have ee0 := getD_of yy0
          exact tupon_value (v := .slice pv k cv) (by simp [go_sem, ee0, yy0]) (Below.refl _ _) rfl
        · refine ob_plain [0] rfl rfl fun aa g h => ?_
          have yy0 := seen_out (v := .slice (some ⟨bl, ol, none⟩) l.length cl) rfl rfl h.1
          have ee0 := getD_of yy0
          exact tupon_value (v := .slice (some ⟨bl, ol, none⟩) l.length cl) (by simp [go_sem, ee0, yy0]) (Below.refl _ _) rfl
        · refine ob_plain [6] rfl rfl fun aa g h => ?_
          have yy0 := seen_out (v := .int .i64 (k : Int)) rfl rfl h.1
          have ee0 := getD_of yy0
          exact tupon_value (v := .int .i64 (k : Int)) (by simp [go_sem, ee0, yy0]) (Below.refl _ _) rfl
        · refine ob_plain [15, 16] rfl rfl fun aa g h => ?_
          obtain ⟨_, yy0, rfl⟩ := seen_in rfl h.1
          have ee0 := getD_of yy0
          obtain ⟨_, yy1, rfl⟩ := seen_in rfl h.2.1
          have ee1 := getD_of yy1
          exact tupon_value (v := .pointer (some ⟨bl, ol + k * 2, none⟩)) (by simp [go_sem, ee0, yy0, ee1, yy1, i2]) (Below.refl _ _) rfl
        · refine ob_plain [17] rfl rfl fun aa g h => ?_
          obtain ⟨_, yy0, rfl⟩ := seen_in rfl h.1
          have ee0 := getD_of yy0
          exact tupon_value (v := .pointer (some ⟨bl, ol + k * 2, none⟩)) (by simp [go_sem, ee0, yy0]) (Below.refl _ _) rfl
        · refine ob_plain [18] rfl rfl fun aa g h => ?_
          obtain ⟨_, yy0, rfl⟩ := seen_in rfl h.1
          have ee0 := getD_of yy0
          exact tupon_value (v := .int .i64 x) (by simp [go_sem, ee0, yy0, f0 g]) (Below.refl _ _) rfl
        · refine ob_plain [6] rfl rfl fun aa g h => ?_
          have yy0 := seen_out (v := .int .i64 (k : Int)) rfl rfl h.1
          have ee0 := getD_of yy0
          exact tupon_value (v := .int .i64 (k : Int)) (by simp [go_sem, ee0, yy0]) (Below.refl _ _) rfl
        · refine ob_plain [3, 20] rfl rfl fun aa g h => ?_
          have yy0 := seen_out (v := .pointer (some ⟨w.heap.size, 0, none⟩)) rfl rfl h.1
          have ee0 := getD_of yy0
          obtain ⟨_, yy1, rfl⟩ := seen_in rfl h.2.1
          have ee1 := getD_of yy1
          exact tupon_value (v := .pointer (some ⟨w.heap.size, k, none⟩)) (by simp [go_sem, ee0, yy0, ee1, yy1, i6]) (Below.refl _ _) rfl
        · refine ob_plain [21] rfl rfl fun aa g h => ?_
          obtain ⟨_, yy0, rfl⟩ := seen_in rfl h.1
          have ee0 := getD_of yy0
          exact tupon_value (v := .int .u16 B1) (by simp [go_sem, ee0, yy0, y1 g]) (Below.refl _ _) rfl
        · refine ob_plain [22] rfl rfl fun aa g h => ?_
          obtain ⟨_, yy0, rfl⟩ := seen_in rfl h.1
          have ee0 := getD_of yy0
          exact tupon_value (v := .int .i64 B1) (by simp [go_sem, ee0, yy0, U1]) (Below.refl _ _) rfl
        · refine ob_plain [19, 23] rfl rfl fun aa g h => ?_
          obtain ⟨_, yy0, rfl⟩ := seen_in rfl h.1
          have ee0 := getD_of yy0
          obtain ⟨_, yy1, rfl⟩ := seen_in rfl h.2.1
          have ee1 := getD_of yy1
          exact tupon_value (v := .int .i64 (x - B1)) (by simp [go_sem, ee0, yy0, ee1, yy1, U2]) (Below.refl _ _) rfl
        · refine ob_plain [0] rfl rfl fun aa g h => ?_
          have yy0 := seen_out (v := .slice (some ⟨bl, ol, none⟩) l.length cl) rfl rfl h.1
          have ee0 := getD_of yy0
          exact tupon_value (v := .slice (some ⟨bl, ol, none⟩) l.length cl) (by simp [go_sem, ee0, yy0]) (Below.refl _ _) rfl
        · refine ob_plain [6] rfl rfl fun aa g h => ?_
          have yy0 := seen_out (v := .int .i64 (k : Int)) rfl rfl h.1
          have ee0 := getD_of yy0
          exact tupon_value (v := .int .i64 (k : Int)) (by simp [go_sem, ee0, yy0]) (Below.refl _ _) rfl
        · refine ob_plain [25, 26] rfl rfl fun aa g h => ?_
          obtain ⟨_, yy0, rfl⟩ := seen_in rfl h.1
          have ee0 := getD_of yy0
          obtain ⟨_, yy1, rfl⟩ := seen_in rfl h.2.1
          have ee1 := getD_of yy1
          exact tupon_value (v := .pointer (some ⟨bl, ol + k * 2, none⟩)) (by simp [go_sem, ee0, yy0, ee1, yy1, i2]) (Below.refl _ _) rfl
        · refine ob_plain [27] rfl rfl fun aa g h => ?_
          obtain ⟨_, yy0, rfl⟩ := seen_in rfl h.1
          have ee0 := getD_of yy0
          exact tupon_value (v := .pointer (some ⟨bl, ol + k * 2 + 1, none⟩)) (by simp [go_sem, ee0, yy0]) (Below.refl _ _) rfl
        · refine ob_plain [28] rfl rfl fun aa g h => ?_
          obtain ⟨_, yy0, rfl⟩ := seen_in rfl h.1
          have ee0 := getD_of yy0
          exact tupon_value (v := .int .i64 y) (by simp [go_sem, ee0, yy0, f1 g]) (Below.refl _ _) rfl
        · refine ob_plain [6] rfl rfl fun aa g h => ?_
          have yy0 := seen_out (v := .int .i64 (k : Int)) rfl rfl h.1
          have ee0 := getD_of yy0
          exact tupon_value (v := .int .i64 (k : Int)) (by simp [go_sem, ee0, yy0]) (Below.refl _ _) rfl
        · refine ob_plain [30] rfl rfl fun aa g h => ?_
          obtain ⟨_, yy0, rfl⟩ := seen_in rfl h.1
          have ee0 := getD_of yy0
          exact tupon_value (v := .int .i64 ((5 - k : Nat) : Int)) (by simp [go_sem, ee0, yy0, U3]) (Below.refl _ _) rfl
        · refine ob_plain [3, 31] rfl rfl fun aa g h => ?_
          have yy0 := seen_out (v := .pointer (some ⟨w.heap.size, 0, none⟩)) rfl rfl h.1
          have ee0 := getD_of yy0
          obtain ⟨_, yy1, rfl⟩ := seen_in rfl h.2.1
          have ee1 := getD_of yy1
          exact tupon_value (v := .pointer (some ⟨w.heap.size, 5 - k, none⟩)) (by simp [go_sem, ee0, yy0, ee1, yy1, i7]) (Below.refl _ _) rfl
        · refine ob_plain [32] rfl rfl fun aa g h => ?_
          obtain ⟨_, yy0, rfl⟩ := seen_in rfl h.1
          have ee0 := getD_of yy0
          exact tupon_value (v := .int .u16 B2) (by simp [go_sem, ee0, yy0, y2 g]) (Below.refl _ _) rfl
        · refine ob_plain [33] rfl rfl fun aa g h => ?_
          obtain ⟨_, yy0, rfl⟩ := seen_in rfl h.1
          have ee0 := getD_of yy0
          exact tupon_value (v := .int .i64 B2) (by simp [go_sem, ee0, yy0, U4]) (Below.refl _ _) rfl
        · refine ob_plain [29, 34] rfl rfl fun aa g h => ?_
          obtain ⟨_, yy0, rfl⟩ := seen_in rfl h.1
          have ee0 := getD_of yy0
          obtain ⟨_, yy1, rfl⟩ := seen_in rfl h.2.1
          have ee1 := getD_of yy1
          exact tupon_value (v := .int .i64 (y + B2)) (by simp [go_sem, ee0, yy0, ee1, yy1, U5]) (Below.refl _ _) rfl
        · refine ob_plain [24, 35] rfl rfl fun aa g h => ?_
          obtain ⟨_, yy0, rfl⟩ := seen_in rfl h.1
          have ee0 := getD_of yy0
          obtain ⟨_, yy1, rfl⟩ := seen_in rfl h.2.1
          have ee1 := getD_of yy1
          refine tupon_enter (f := 27) (args := #[.int .i64 (x - B1), .int .i64 (y + B2)]) (by simp [go_sem, ee0, yy0, ee1, yy1]) rfl ?_
          exact (KN.out g.w).mono fun e w' ⟨he, hB⟩ => ⟨_, he, hB, rfl⟩
        · refine ob_plain [36] rfl rfl fun aa g h => ?_
          obtain ⟨_, yy0, rfl⟩ := seen_in rfl h.1
          have ee0 := getD_of yy0
          exact tupon_value (v := .slice (some ⟨g.w.heap.size, 0, none⟩) 1 1) (w1 := g.w.alloc (.cells #[.int .i64 (x - B1), .int .i64 (y + B2)] 45)) (by simp [go_sem, ee0, yy0]) ((Below.refl _ _).alloc (Nat.le_refl _) _) ⟨_, rfl, g.h.size, World.alloc_heap_new _ _⟩
      rintro w9 hB9 _ rfl _ rfl _ rfl _ rfl _ rfl _ rfl _ rfl _ rfl _ rfl _ rfl _ rfl _ rfl _ rfl _ rfl _ rfl _ rfl _ rfl _ rfl _ rfl _ rfl _ rfl _ rfl _ rfl _ ⟨X37, rfl, hX37, hI37⟩
      simp only [Act.put, List.setIfInBounds_toArray, List.set_cons_succ, List.set_cons_zero, finP, List.drop_succ_cons, List.drop_zero, List.take_zero, List.filterMap_nil]
      have HR9 := Lib.hid (own_keptN HR.out hB9)
      have HB9 := Lib.hid (HB.out.trans (hB9.mono (Nat.le_trans HS5.out HB.out.size)))
      have HNB := Lib.hid (two_at (x - B1, y + B2) hI37)
      have hs9 : w.heap.size + 1 ≤ w9.heap.size := Nat.le_trans HS5.out HB9.out.size
      clear hB9 hI37 hX37 y1 y2 f0 f1 U1 U2 U3 U4 U5 KN HT HR HB
      go_wp2_with (at_builtin; refine wpList_append_own _ rfl (.tmp 14) (.tmp 37) 26 rfl (w.heap.size + 1) 45 i0 (.agg #[.int .i64 0, .int .i64 0]) 2 16 Try.underlying26 hi0 hz0 hz1 hz2 rfl (by decide) (.slice pv k cv) k _ rfl HR9.out ⟨X37, 0, none⟩ 1 1 (encB (x - B1, y + B2)) rfl rfl HNB.out (one_b _) (by unfold maxLen; omega) (by omega) hs9 ?_)
      intro v' w8 hown' hgrow _
      have HB8 := Lib.hid (Below.grown HB9.out hgrow hs9 (fun i hi => (HR9.out.lt i hi).1))
      have HR8 := Lib.hid hown'
      clear hown' hgrow HB9 HR9 HNB hs9
      go_wp2_with (fail)
      go_roundw
      case rel => exact ⟨k + 1, by go_num, by omega, Lib.hid (by rw [HWK.out, cr_snoc]; exact HR8.out), HB8⟩
      case measure => simp [intOf]; omega
    · obtain rfl : k = l.length := by omega
      have i2 : ¬ (l.length : Int) < l.length := by omega
      go_wp2_with (fail)
      go_ret
      refine ⟨_, rfl, ?_, HT.out⟩
      have hl := widL_len l [b0, b1, b2, b3, b4, b5] l.length
      have h := HR.out
      rw [← hl] at h
      have h2 := Rx.own encB_len (l := widL l [b0, b1, b2, b3, b4, b5] l.length) (by rw [hl] at h ⊢; exact h) (by rw [hl]; unfold maxLen; omega)
      exact h2
theorem r2sub_at (a b c d : Int) (r : Bool) (w : World) (h : (decide (c ≤ a) && decide (b ≤ d)) = r) : Calls Try.prog 30 #[.agg #[.int .i64 a, .int .i64 b], .agg #[.int .i64 c, .int .i64 d]] w fun e w' => e = .returned (.bool r) ∧ Below w.heap.size w w' := by
  subst h
  by_cases h1 : c ≤ a
  · by_cases h2 : b ≤ d
    · simpa [h1, h2] using r2subset_0 a b c d w h1 (by simpa using h2)
    · simpa [h1, h2] using r2subset_1 a b c d w h1 (by simpa using h2)
  · simpa [h1] using r2subset_2 a b c d w (by omega)
theorem zall_take {a b : List (Int × Int)} {k : Nat} {x y : Int × Int} (hx : a[k]? = some x) (hy : b[k]? = some y) (h : ((a.zip b).take k).all sub1 = true) (g : sub1 (x, y) = true) : ((a.zip b).take (k + 1)).all sub1 = true := by
  have e : (a.zip b)[k]? = some (x, y) := List.getElem?_zip_eq_some.2 ⟨hx, hy⟩
  rw [List.take_add_one, e, List.all_append, h]
  simp [g]
theorem zall_no {a b : List (Int × Int)} {k : Nat} {x y : Int × Int} (hx : a[k]? = some x) (hy : b[k]? = some y) (g : sub1 (x, y) = false) : (a.zip b).all sub1 = false := by
  rw [Bool.eq_false_iff]
  intro h
  have e : (a.zip b)[k]? = some (x, y) := List.getElem?_zip_eq_some.2 ⟨hx, hy⟩
  rw [List.all_eq_true.1 h (x, y) (List.mem_of_getElem? e)] at g
  cases g
set_option maxHeartbeats 8000000 in
theorem rsub_ok (va vb : Value) (l m : List (Int × Int)) (r : Bool) (w : World) (ha : Vx w va l) (hb : Vx w vb m) (hlen : m.length = l.length) (h6 : l.length ≤ 6) (hr : subB l m = r) :
    Calls Try.prog 23 #[va, vb] w fun e w' => e = .returned (.bool r) ∧ Below w.heap.size w w' := by
  obtain ⟨pa, ca, rfl⟩ := ha.cut
  obtain ⟨pb, cb, rfl⟩ := hb.cut
  rw [hlen] at hb ⊢
  have HA := Lib.hid ha
  have HB := Lib.hid hb
  have HL := Lib.hid hlen
  have HRR := Lib.hid hr
  clear ha hb hlen hr
  go_enter Try.func23, Try.ntmps23
  go_wp2_with (fail)
  go_loopw [5] (fun i wr => ∃ k : Nat, i = .int .i64 k ∧ k ≤ l.length ∧ Hid (((l.zip m).take k).all sub1 = true) ∧ Hid (Below w.heap.size w wr)) (fun i _ => l.length - (intOf i).toNat)
  case atStart => exact ⟨0, rfl, Nat.zero_le _, Lib.hid rfl, Lib.hid (Below.refl _ _)⟩
  case round =>
    obtain ⟨k, rfl, hk, HZ, HW⟩ := hrel
    by_cases hlt : k < l.length
    · have i2 : (k : Int) < l.length := by omega
      obtain ⟨⟨a, b⟩, hx⟩ : ∃ x, l[k]? = some x := ⟨_, List.getElem?_eq_getElem hlt⟩
      obtain ⟨⟨c, d⟩, hy⟩ : ∃ x, m[k]? = some x := ⟨_, List.getElem?_eq_getElem (by rw [HL.out]; exact hlt)⟩
      obtain ⟨q, hq⟩ : ∃ q, sub1 ((a, b), (c, d)) = q := ⟨_, rfl⟩
      have K1 := Lib.hid (fun w => r2sub_at a b c d q w hq)
      obtain ⟨ba, oa, hpa, hba, rda⟩ := vx_rd HA.out hx
      obtain ⟨bb, ob, hpb, hbb, rdb⟩ := vx_rd HB.out hy
      subst hpa hpb
      have f0 := fun g : Grown wr => (rda ⟨g.w, HW.out.trans (g.h.mono HW.out.size)⟩).1
      have f1 := fun g : Grown wr => (rda ⟨g.w, HW.out.trans (g.h.mono HW.out.size)⟩).2
      have g0 := fun g : Grown wr => (rdb ⟨g.w, HW.out.trans (g.h.mono HW.out.size)⟩).1
      have g1 := fun g : Grown wr => (rdb ⟨g.w, HW.out.trans (g.h.mono HW.out.size)⟩).2
      have HX := Lib.hid hx
      have HY := Lib.hid hy
      have HQ := Lib.hid hq
      clear rda rdb hx hy hq
      go_wp2_with (fail)
      refine region_pred (lk [(12, fun z_ _ => z_ = .slice (some ⟨ba, oa, none⟩) l.length ca), (13, fun z_ _ => z_ = .int .i64 (k : Int)), (14, fun z_ _ => z_ = .pointer (some ⟨ba, oa + k * 2, none⟩)), (15, fun z_ _ => z_ = .agg #[.int .i64 a, .int .i64 b]), (16, fun z_ _ => z_ = .slice (some ⟨bb, ob, none⟩) l.length cb), (17, fun z_ _ => z_ = .int .i64 (k : Int)), (18, fun z_ _ => z_ = .pointer (some ⟨bb, ob + k * 2, none⟩)), (19, fun z_ _ => z_ = .agg #[.int .i64 c, .int .i64 d]), (20, fun z_ _ => z_ = .bool q), (21, fun z_ _ => z_ = .bool !q)]) (by kernel_rfl) (by kernel_rfl) (lk_steady _ ⟨steady_eq _, steady_eq _, steady_eq _, steady_eq _, steady_eq _, steady_eq _, steady_eq _, steady_eq _, steady_eq _, steady_eq _, trivial⟩) ?_ ?_
      · refine ⟨?_, ?_, ?_, ?_, ?_, ?_, ?_, ?_, ?_, ?_, trivial⟩
        · refine ob_plain [0] rfl rfl fun aa g h => ?_
          have yy0 := seen_out (v := .slice (some ⟨ba, oa, none⟩) l.length ca) rfl rfl h.1
          have ee0 := getD_of yy0
          exact tupon_value (v := .slice (some ⟨ba, oa, none⟩) l.length ca) (by simp [go_sem, ee0, yy0]) (Below.refl _ _) rfl
        · refine ob_plain [5] rfl rfl fun aa g h => ?_
          have yy0 := seen_out (v := .int .i64 (k : Int)) rfl rfl h.1
          have ee0 := getD_of yy0
          exact tupon_value (v := .int .i64 (k : Int)) (by simp [go_sem, ee0, yy0]) (Below.refl _ _) rfl
        · refine ob_plain [12, 13] rfl rfl fun aa g h => ?_
          obtain ⟨_, yy0, rfl⟩ := seen_in rfl h.1
          have ee0 := getD_of yy0
          obtain ⟨_, yy1, rfl⟩ := seen_in rfl h.2.1
          have ee1 := getD_of yy1
          exact tupon_value (v := .pointer (some ⟨ba, oa + k * 2, none⟩)) (by simp [go_sem, ee0, yy0, ee1, yy1, i2]) (Below.refl _ _) rfl
        · refine ob_plain [14] rfl rfl fun aa g h => ?_
          obtain ⟨_, yy0, rfl⟩ := seen_in rfl h.1
          have ee0 := getD_of yy0
          exact tupon_value (v := .agg #[.int .i64 a, .int .i64 b]) (by simp [go_sem, ee0, yy0, f0 g, f1 g]) (Below.refl _ _) rfl
        · refine ob_plain [1] rfl rfl fun aa g h => ?_
          have yy0 := seen_out (v := .slice (some ⟨bb, ob, none⟩) l.length cb) rfl rfl h.1
          have ee0 := getD_of yy0
          exact tupon_value (v := .slice (some ⟨bb, ob, none⟩) l.length cb) (by simp [go_sem, ee0, yy0]) (Below.refl _ _) rfl
        · refine ob_plain [5] rfl rfl fun aa g h => ?_
          have yy0 := seen_out (v := .int .i64 (k : Int)) rfl rfl h.1
          have ee0 := getD_of yy0
          exact tupon_value (v := .int .i64 (k : Int)) (by simp [go_sem, ee0, yy0]) (Below.refl _ _) rfl
        · refine ob_plain [16, 17] rfl rfl fun aa g h => ?_
          obtain ⟨_, yy0, rfl⟩ := seen_in rfl h.1
          have ee0 := getD_of yy0
          obtain ⟨_, yy1, rfl⟩ := seen_in rfl h.2.1
          have ee1 := getD_of yy1
          exact tupon_value (v := .pointer (some ⟨bb, ob + k * 2, none⟩)) (by simp [go_sem, ee0, yy0, ee1, yy1, i2]) (Below.refl _ _) rfl
        · refine ob_plain [18] rfl rfl fun aa g h => ?_
          obtain ⟨_, yy0, rfl⟩ := seen_in rfl h.1
          have ee0 := getD_of yy0
          exact tupon_value (v := .agg #[.int .i64 c, .int .i64 d]) (by simp [go_sem, ee0, yy0, g0 g, g1 g]) (Below.refl _ _) rfl
        · refine ob_plain [15, 19] rfl rfl fun aa g h => ?_
          obtain ⟨_, yy0, rfl⟩ := seen_in rfl h.1
          have ee0 := getD_of yy0
          obtain ⟨_, yy1, rfl⟩ := seen_in rfl h.2.1
          have ee1 := getD_of yy1
          refine tupon_enter (f := 30) (args := #[.agg #[.int .i64 a, .int .i64 b], .agg #[.int .i64 c, .int .i64 d]]) (by simp [go_sem, ee0, yy0, ee1, yy1]) rfl ?_
          exact (K1.out g.w).mono fun e w' ⟨he, hB⟩ => ⟨_, he, hB, rfl⟩
        · refine ob_plain [20] rfl rfl fun aa g h => ?_
          obtain ⟨_, yy0, rfl⟩ := seen_in rfl h.1
          have ee0 := getD_of yy0
          exact tupon_value (v := .bool !q) (by simp [go_sem, ee0, yy0]) (Below.refl _ _) rfl
      rintro w9 hB9 _ rfl _ rfl _ rfl _ rfl _ rfl _ rfl _ rfl _ rfl _ rfl _ rfl
      simp only [Act.put, List.setIfInBounds_toArray, List.set_cons_succ, List.set_cons_zero, List.filterMap_nil, finP]
      have HB9 := Lib.hid (HW.out.trans (hB9.mono HW.out.size))
      clear hB9 f0 f1 g0 g1 HW
      cases q with
      | true =>
        have hz := zall_take HX.out HY.out HZ.out HQ.out
        have HZ1 := Lib.hid hz
        clear hz
        go_wp2_with (fail)
        go_roundw
        case rel => exact ⟨k + 1, by go_num, by omega, HZ1, HB9⟩
        case measure => simp [intOf]; omega
      | false =>
        have hz : (l.zip m).all sub1 = false := zall_no HX.out HY.out HQ.out
        have HZ1 := Lib.hid hz
        clear hz
        go_wp2_with (fail)
        go_ret
        exact ⟨show Ending.returned (.bool false) = .returned (.bool r) from by rw [← HRR.out]; exact ret_bool HZ1.out.symm, HB9.out⟩
    · obtain rfl : k = l.length := by omega
      have i2 : ¬ (l.length : Int) < l.length := by omega
      have hz := HZ.out
      rw [List.take_of_length_le (by rw [List.length_zip]; omega)] at hz
      have HZ1 := Lib.hid hz
      clear hz
      go_wp2_with (fail)
      go_ret
      exact ⟨show Ending.returned (.bool true) = .returned (.bool r) from by rw [← HRR.out]; exact ret_bool HZ1.out.symm, HW.out⟩
end Go.Proofs.Ytecmgiihacigaaa
