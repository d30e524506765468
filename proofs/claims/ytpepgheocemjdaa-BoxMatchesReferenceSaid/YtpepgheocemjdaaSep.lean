/-
  box.Separated.
-/
import Derived.Test.YtpepgheocemjdaaSqd
import Derived.Test.YtpepgheocemjdaaFix
import Derived.Test.YtpepgheocemjdaaIw1
import Derived.Test.YtpepgheocemjdaaLoop
namespace Go.Proofs.Ytpepgheocemjdaa
open Go.ChangeShapes Go.WideShapes Go.ChangeAt Go.RowKit
set_option linter.unusedVariables false
set_option linter.unusedSimpArgs false
set_option maxRecDepth 100000

attribute [local irreducible] Calls

def sepI (d : Int) (s : Int × Int) : Bool := !decide (Ent s.1 s.2) && decide (up (d * d) 65536 < s.1)
set_option maxHeartbeats 2000000 in
theorem box_sep (va vb : Value) (la lb : List (Int × Int)) (d : Int) (w : World) (hva : Bx w va la) (hvb : Bx w vb lb) (hlen : lb.length = la.length) (hv : ∀ z ∈ la.zip lb, VB z.1 ∧ VB z.2) (hd0 : 0 ≤ d) (hd1 : d ≤ 2147483648) :
    Calls Try.prog 40 #[va, vb, .int .i64 d] w fun e W' => e = .returned (.bool (sepI d (sdist (la.zip lb)))) ∧ Below w.heap.size w W' := by
  have c1 := box_sqd va vb la lb w hva hvb hlen hv
  have c2 := fun w => mul_any d d w (by omega) hd1 (by omega) hd1
  obtain ⟨hl, p, c, rfl, hp⟩ := hva
  obtain ⟨hm, q, c', rfl, hq⟩ := hvb
  clear hp hq hl hm hv hlen
  generalize sdist (la.zip lb) = s at *
  obtain ⟨x, y⟩ := s
  unfold sepI
  simp only [iva] at c1
  dsimp only
  generalize dn (d * d) 65536 = m1 at *
  generalize up (d * d) 65536 = m2 at *
  by_cases he : Ent x y
  · have c3 := fun w => iv_isent x y true w (by obtain ⟨rfl, rfl⟩ := he; simp)
    have HE := Lib.hid he
    clear he
    go_enter Try.func40, Try.ntmps40
    go_wp2_with (fail)
    refine c1.mono ?_
    rintro e w1 ⟨rfl, hB1⟩
    go_wp2_with (fail)
    refine (c2 _).mono ?_
    rintro e w2 ⟨rfl, hB2⟩
    have hI : IvBox w2 w1.heap.size (x, y) := (hB2.block _ (IvBox.new w1 x y).lt).trans (IvBox.new w1 x y)
    have i0 := hI.cell0
    have i1 := hI.cell1
    dsimp only at i0 i1
    have hB3 : Below w.heap.size w w2 := (hB1.alloc hB1.size _).trans (hB2.mono (by have := hB1.size; simp; omega))
    go_wp2_with (fail)
    refine (c3 _).mono ?_
    rintro e w3 ⟨rfl, hB4⟩
    go_wp2_with (fail)
    go_ret
    exact ⟨ret_bool (by simp [HE.out]), hB3.trans (hB4.mono hB3.size)⟩
  · have c3 := fun w => iv_isent x y false w (by
      rw [Bool.eq_false_iff]
      intro h
      simp at h
      exact he h)
    have HE := Lib.hid he
    clear he
    by_cases hx : m2 < x
    all_goals
      go_enter Try.func40, Try.ntmps40
      go_wp2_with (fail)
      refine c1.mono ?_
      rintro e w1 ⟨rfl, hB1⟩
      go_wp2_with (fail)
      refine (c2 _).mono ?_
      rintro e w2 ⟨rfl, hB2⟩
      have hI : IvBox w2 w1.heap.size (x, y) := (hB2.block _ (IvBox.new w1 x y).lt).trans (IvBox.new w1 x y)
      have i0 := hI.cell0
      have i1 := hI.cell1
      dsimp only at i0 i1
      have hB3 : Below w.heap.size w w2 := (hB1.alloc hB1.size _).trans (hB2.mono (by have := hB1.size; simp; omega))
      go_wp2_with (fail)
      refine (c3 _).mono ?_
      rintro e w3 ⟨rfl, hB4⟩
      have hJ : IvBox w3 w1.heap.size (x, y) := (hB4.block _ hI.lt).trans hI
      have j0 := hJ.cell0
      have j1 := hJ.cell1
      dsimp only at j0 j1
      go_wp2_with (fail)
      go_ret
      exact ⟨ret_bool (by simp [HE.out, hx]), hB3.trans (hB4.mono hB3.size)⟩
end Go.Proofs.Ytpepgheocemjdaa
