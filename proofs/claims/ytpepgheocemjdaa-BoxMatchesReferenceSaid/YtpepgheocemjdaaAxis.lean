/-
  box.WidestAxis.
-/
import Derived.Test.YtpepgheocemjdaaLoop
namespace Go.Proofs.Ytpepgheocemjdaa
open Go.ChangeShapes Go.WideShapes Go.ChangeAt Go.RowKit
set_option linter.unusedVariables false
set_option linter.unusedSimpArgs false
set_option maxRecDepth 100000

attribute [local irreducible] Calls

open Go.BigFrame
def wat (l : List (Int × Int)) (i : Nat) : Int := wdt (l[i]?.getD (0, 0))
def axn (l : List (Int × Int)) : Nat → Nat
  | 0 => 0
  | k + 1 => if wat l (axn l k) < wat l k then k else axn l k
theorem axn_lt (l : List (Int × Int)) : ∀ k, axn l k ≤ k
  | 0 => Nat.le_refl _
  | k + 1 => by
    have := axn_lt l k
    unfold axn
    split <;> omega
set_option maxHeartbeats 2000000 in
theorem box_axis (v : Value) (l : List (Int × Int)) (w : World) (hv : Bx w v l) (hV : ∀ p ∈ l, VB p) :
    Calls Try.prog 52 #[v] w fun e w' => e = .returned (.int .i64 (axn l l.length)) ∧ Below w.heap.size w w' := by
  obtain ⟨hl, p, c, rfl, hp⟩ := hv
  unfold maxLen at hl
  have HV := Lib.hid hV
  clear hV
  go_enter Try.func52, Try.ntmps52
  go_wp2_with (fail)
  go_loopw [3, 8] (fun s i wr => ∃ k : Nat, i = .int .i64 k ∧ k ≤ l.length ∧ s = .int .i64 (axn l k) ∧ Below w.heap.size w wr) (fun _ i _ => l.length - (intOf i).toNat)
  case atStart => exact ⟨0, rfl, Nat.zero_le _, rfl, Below.refl _ _⟩
  case round =>
    obtain ⟨k, rfl, hk, rfl, hB⟩ := hrel
    by_cases hlt : k < l.length
    · have hax : axn l k < l.length := by have := axn_lt l k; omega
      obtain ⟨b, o, x, y, rfl, hx, hb, c1, c2⟩ := Bx.at (c := 0) (n := 0) hp hlt hB
      obtain ⟨b', o', x', y', hpp, hx', hb', c1', c2'⟩ := Bx.at (c := 0) (n := 0) hp hax hB
      simp only [Option.some.injEq, Addr.mk.injEq, and_true] at hpp
      obtain ⟨rfl, rfl⟩ := hpp
      have hlk : (k : Int) < l.length := by omega
      have hla : (axn l k : Int) < l.length := by omega
      have hVx : VI x y := HV.out _ (List.mem_of_getElem? hx)
      have hVy : VI x' y' := HV.out _ (List.mem_of_getElem? hx')
      have hbw : b < wr.heap.size := Nat.lt_of_lt_of_le hb hB.size
      have hsz := hB.size
      have k1 := Lib.hid (fun w => iv_width x y w ⟨hVx.bd.1, hVx.bd.2.1, hVx.bd.2.2.1, hVx.bd.2.2.2.1⟩)
      have k2 := Lib.hid (fun w => iv_width x' y' w ⟨hVy.bd.1, hVy.bd.2.1, hVy.bd.2.2.1, hVy.bd.2.2.2.1⟩)
      have hw1 : wat l k = y - x := by simp [wat, hx, wdt]
      have hw2 : wat l (axn l k) = y' - x' := by simp [wat, hx', wdt]
      have hst : axn l (k + 1) = if y' - x' < y - x then k else axn l k := by rw [← hw1, ← hw2]; rfl
      have HST := Lib.hid hst
      clear hp hx hx' hVx hVy hw1 hw2 hst
      generalize axn l k = a at *
      generalize y - x = q at *
      generalize y' - x' = q' at *
      have hI := IvBox.new wr x y
      by_cases hq : q' < q
      all_goals
        go_wp2_with (fail)
        generalize hWA : wr.alloc (.cells #[.int .i64 x, .int .i64 y] 23) = WA at *
        have hBA : Below w.heap.size w WA := by rw [← hWA]; exact hB.alloc hB.size _
        have hsA : WA.heap.size = wr.heap.size + 1 := by rw [← hWA]; simp
        have f1 : WA.cell? ⟨b, o + k * 2, none⟩ = some (.int .i64 x) := by rw [← hWA]; exact (((Below.refl wr.heap.size wr).alloc (Nat.le_refl _) _).cell (p := ⟨b, o + k * 2, none⟩) hbw).trans c1
        have f3 : WA.cell? ⟨b, o + a * 2, none⟩ = some (.int .i64 x') := by rw [← hWA]; exact (((Below.refl wr.heap.size wr).alloc (Nat.le_refl _) _).cell (p := ⟨b, o + a * 2, none⟩) hbw).trans c1'
        have f4 : WA.cell? ⟨b, o + a * 2 + 1, none⟩ = some (.int .i64 y') := by rw [← hWA]; exact (((Below.refl wr.heap.size wr).alloc (Nat.le_refl _) _).cell (p := ⟨b, o + a * 2 + 1, none⟩) hbw).trans c2'
        clear hWA
        have lt1 := hI.lt
        have lt2 : b < WA.heap.size := by omega
        have F0 : ∀ g : Grown WA, g.w.cell? ⟨wr.heap.size, 0, none⟩ = some (.int .i64 x) := fun g => (g.cell lt1).trans hI.cell0
        have F1 : ∀ g : Grown WA, g.w.cell? ⟨wr.heap.size, 1, none⟩ = some (.int .i64 y) := fun g => (g.cell lt1).trans hI.cell1
        have F2 : ∀ g : Grown WA, g.w.cell? ⟨b, o + a * 2, none⟩ = some (.int .i64 x') := fun g => (g.cell lt2).trans f3
        have F3 : ∀ g : Grown WA, g.w.cell? ⟨b, o + a * 2 + 1, none⟩ = some (.int .i64 y') := fun g => (g.cell lt2).trans f4
        obtain ⟨g0, hg0⟩ : ∃ g : Grown WA, WA = g.w := ⟨⟨WA, Below.refl _ _⟩, rfl⟩
        rw [hg0]
        clear hg0
        refine region_quiet' g0 (by kernel_rfl) (by kernel_rfl) ?_
        repeat (go_big_quiet_step (first | exact qc (k1.out _) | exact qc (k2.out _)))
        refine wpQuiet_nil ?_
        rintro _ ⟨g1, rfl⟩
        have hB9 : Below w.heap.size w g1.w := hBA.trans (g1.h.mono hBA.size)
        go_wp2_with (fail)
        go_roundw
        case rel => exact ⟨k + 1, by go_num, by omega, by (rw [HST.out]; first | rw [if_pos hq] | rw [if_neg (by omega)]), hB9⟩
        case measure => simp [intOf]; omega
    · obtain rfl : k = l.length := by omega
      go_wp2_with (fail)
      go_ret
      exact ⟨rfl, hB⟩
end Go.Proofs.Ytpepgheocemjdaa
