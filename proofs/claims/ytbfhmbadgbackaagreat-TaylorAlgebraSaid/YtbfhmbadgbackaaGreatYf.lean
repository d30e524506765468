/-
  The reference's HasValue, for models without terms.
-/
import Derived.Test.YtbfhmbadgbackaaGreatYe
namespace Go.Proofs.YtbfhmbadgbackaaGreat
open Go.ChangeShapes Go.WideShapes Go.ChangeAt Go.RowKit
set_option linter.unusedVariables false
set_option linter.unusedSimpArgs false
set_option maxRecDepth 100000

attribute [local irreducible] Calls
set_option maxHeartbeats 4000000 in
theorem atc_nil (p : Option Addr) (c : Nat) (vs : Value) (w : World) :
    Calls Tryz.prog 87 #[.slice p 0 c, vs] w fun e w' => e = .returned (.int .i64 0) ∧ Below w.heap.size w w' := by
  go_enter Tryz.func87, Tryz.ntmps87
  go_wp2_with (fail)
  go_loopw [5, 6] (fun o i wr => o = .int .i64 0 ∧ i = .int .i64 0 ∧ wr = w) (fun _ _ _ => 0)
  case atStart => exact ⟨rfl, rfl, rfl⟩
  case round =>
    obtain ⟨rfl, rfl, rfl⟩ := hrel
    go_wp2_with (fail)
    go_ret
    exact ⟨rfl, Below.refl _ _⟩
set_option maxHeartbeats 4000000 in
theorem hv_nil (u vs : Value) (a b x : Int) (w : World) (hu : Tx w u []) (hb : -2147483648 ≤ a ∧ a ≤ 2147483648 ∧ -2147483648 ≤ b ∧ b ≤ 2147483648) (hx : a * 65536 ≤ x ∧ x ≤ b * 65536) :
    Calls Tryz.prog 42 #[.agg #[u, .int .i64 a, .int .i64 b], vs, .int .i64 x] w fun e w' => e = .returned (.bool true) ∧ Below w.heap.size w w' := by
  obtain ⟨p, c, rfl⟩ := hu.cut
  have KA := Lib.hid (fun w => atc_nil p c vs w)
  have W1 : IntKind.i64.wrap (a * 65536) = a * 65536 := wrap_i64 _ (by omega) (by omega)
  have W2 : IntKind.i64.wrap (b * 65536) = b * 65536 := wrap_i64 _ (by omega) (by omega)
  have W3 : IntKind.i64.wrap a = a := wrap_i64 _ (by omega) (by omega)
  have W4 : IntKind.i64.wrap b = b := wrap_i64 _ (by omega) (by omega)
  have D1 : decide (a * 65536 ≤ x) = true := by simpa using hx.1
  have D2 : decide (x ≤ b * 65536) = true := by simpa using hx.2
  have D3 : a * 65536 ≤ x := hx.1
  have D4 : x ≤ b * 65536 := hx.2
  have hM := Lib.hid (MoC.new w (.slice p 0 c) a b)
  have hba : Below w.heap.size w (w.alloc (.cells #[.slice p 0 c, .int .i64 a, .int .i64 b] 26)) := (Below.refl _ _).alloc (Nat.le_refl _) _
  have HBA := Lib.hid hba
  clear hu hb hx hba
  rw [show ([] : List Tm).length = 0 from rfl]
  go_enter Tryz.func42, Tryz.ntmps42
  go_wp2_with (fail)
  refine (KA.out _).mono ?_
  rintro e w1 ⟨rfl, hB1⟩
  have hM1 := hM.out.grow hB1
  have q1 := hM1.c1
  have q2 := hM1.c2
  dsimp only at q1 q2
  have hb1 := below_then HBA.out hB1
  by_cases hE : Ent a b
  · obtain ⟨rfl, rfl⟩ := hE
    go_wp2_with (fail)
    refine (r2ent_yes _).mono ?_
    rintro e w2 ⟨rfl, hB2⟩
    clear q1 q2
    go_wp2_with (fail)
    go_ret
    exact ⟨rfl, below_then hb1 hB2⟩
  · have KE := Lib.hid (fun w => r2ent_no a b w hE)
    clear hE
    go_wp2_with (fail)
    refine (KE.out _).mono ?_
    rintro e w2 ⟨rfl, hB2⟩
    have hM2 := hM1.grow hB2
    clear q1 q2
    have q1 := hM2.c1
    have q2 := hM2.c2
    dsimp only at q1 q2
    go_wp2_with (fail)
    go_ret
    exact ⟨by simp [D1, D2], below_then hb1 hB2⟩
end Go.Proofs.YtbfhmbadgbackaaGreat
