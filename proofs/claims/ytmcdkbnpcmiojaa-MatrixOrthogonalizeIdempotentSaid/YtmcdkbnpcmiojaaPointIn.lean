/-
  The reference's PointIn: what it needs.
-/
import Derived.Test.YtmcdkbnpcmiojaaPredIn
import Derived.Test.YtmcdkbnpcmiojaaMap
import Derived.Test.YtmcdkbnpcmiojaaR1
import Derived.Test.YtmcdkbnpcmiojaaPredK
namespace Go.Proofs.Ytmcdkbnpcmiojaa
open Go.ChangeShapes Go.WideShapes Go.ChangeAt Go.RowKit
set_option linter.unusedVariables false
set_option linter.unusedSimpArgs false
set_option maxRecDepth 100000

attribute [local irreducible] Calls
theorem point_in_bd (x y q : Int) (h : x ≤ y) (hx : -2147483648 < x) (hy : y < 2147483648) (q0 : 0 ≤ q) (q1 : q ≤ 65535) :
    0 ≤ (y - x) * q ∧ (y - x) * q ≤ 281474976710656 ∧ 0 ≤ (y - x) * q / 65535 ∧ (y - x) * q / 65535 ≤ y - x := by
  have h0 : 0 ≤ y - x := by omega
  have h1 : 0 ≤ (y - x) * q := Int.mul_nonneg h0 q0
  have h2 : (y - x) * q ≤ (y - x) * 65535 := Int.mul_le_mul_of_nonneg_left q1 h0
  refine ⟨h1, by omega, by omega, by omega⟩
/-- A slice of small numbers. -/
def Us (w : World) (v : Value) (l : List Int) : Prop := l.length ≤ maxLen ∧ ∃ p cap, v = .slice p l.length cap ∧
  ∀ k x, l[k]? = some x → ∃ b o, p = some ⟨b, o, none⟩ ∧ b < w.heap.size ∧ w.cell? ⟨b, o + k, none⟩ = some (.int .u16 x)
theorem Us.grow {w w' : World} {v : Value} {l : List Int} (h : Us w v l) (hb : Below w.heap.size w w') : Us w' v l := by
  obtain ⟨h1, p, c, rfl, h2⟩ := h
  refine ⟨h1, p, c, rfl, fun k x hx => ?_⟩
  obtain ⟨b, o, e, hb', hc⟩ := h2 k x hx
  exact ⟨b, o, e, Nat.lt_of_lt_of_le hb' hb.size, (hb.cell (p := ⟨b, o + k, none⟩) hb').trans hc⟩
def OwnJ (B : Nat) (w : World) (v : Value) (l : List Int) : Prop := ∃ g cap, v = .slice (some ⟨g, 0, none⟩) l.length cap ∧ w.ownsRow B 2 1 v l.length (cy l)
theorem wrap_ok (n : Int) (h1 : -9223372036854775808 ≤ n) (h2 : n ≤ 9223372036854775807) : IntKind.i64.wrap n = n := by
  unfold IntKind.wrap
  simp [IntKind.signed, IntKind.bits]
  omega
theorem cell_one {w : World} {X : Nat} {u : Value} {t : TypeId} (h : w.heap[X]? = some (.cells #[u] t (0, 0))) : ∀ j x, [u][j]? = some x → w.cell? ((⟨X, 0, none⟩ : Addr).add j) = some x := by
  intro j x hj
  match j, hj with
  | 0, hj =>
    simp at hj
    subst hj
    simp [Addr.add, World.cell?, h]
theorem one_i64 (n : Int) : ∀ u ∈ [Value.int .i64 n], u.oneCell' = true := by
  intro u hu
  simp at hu
  subst hu
  rfl

section
variable (wr2 : World) (b o c g cap : Nat) (l : List (Int × Int)) (m : List Int) (x y q : Int)
def phiP : Tmp → Value → World → Prop := lk [(33, fun u _ => u = .slice (some ⟨g, 0, none⟩) m.length cap), (34, fun u _ => u = .slice (some ⟨b, o, none⟩) l.length c), (35, fun u _ => u = .int .i64 (m.length : Int)), (36, fun u _ => u = .pointer (some ⟨b, o + m.length * 2, none⟩)), (37, fun u _ => u = .pointer (some ⟨b, o + m.length * 2, none⟩)), (38, fun u _ => u = .int .i64 x), (39, fun u _ => u = .slice (some ⟨b, o, none⟩) l.length c), (40, fun u _ => u = .int .i64 (m.length : Int)), (41, fun u _ => u = .pointer (some ⟨b, o + m.length * 2, none⟩)), (42, fun u _ => u = .pointer (some ⟨b, o + m.length * 2 + 1, none⟩)), (43, fun u _ => u = .int .i64 y), (44, fun u _ => u = .slice (some ⟨b, o, none⟩) l.length c), (45, fun u _ => u = .int .i64 (m.length : Int)), (46, fun u _ => u = .pointer (some ⟨b, o + m.length * 2, none⟩)), (47, fun u _ => u = .pointer (some ⟨b, o + m.length * 2, none⟩)), (48, fun u _ => u = .int .i64 x), (49, fun u _ => u = .int .i64 (y - x)), (50, fun u _ => u = .int .i64 q), (51, fun u _ => u = .int .i64 ((y - x) * q)), (52, fun u _ => u = .int .i64 ((y - x) * q / 65535)), (53, fun u _ => u = .int .i64 (x + (y - x) * q / 65535)), (54, fun u w' => ∃ X, u = .slice (some ⟨X, 0, none⟩) 1 1 ∧ wr2.heap.size ≤ X ∧ w'.heap[X]? = some (.cells #[.int .i64 (x + (y - x) * q / 65535)] 2 (0, 0)))]
theorem phiP_steady : ∀ t v w1 w2, Below w1.heap.size w1 w2 → phiP wr2 b o c g cap l m x y q t v w1 → phiP wr2 b o c g cap l m x y q t v w2 := lk_steady _ ⟨steady_eq _, steady_eq _, steady_eq _, steady_eq _, steady_eq _, steady_eq _, steady_eq _, steady_eq _, steady_eq _, steady_eq _, steady_eq _, steady_eq _, steady_eq _, steady_eq _, steady_eq _, steady_eq _, steady_eq _, steady_eq _, steady_eq _, steady_eq _, steady_eq _, fun u w1 w2 hb ⟨X, h1, h2, h3⟩ => ⟨X, h1, h2, (hb.block X (Array.getElem?_eq_some_iff.1 h3).1).trans h3⟩, trivial⟩
end

theorem cy_snoc (l : List Int) (x : Int) : cy (l ++ [x]) = cy l ++ [.int .i64 x] := by rw [cy_app]; rfl
theorem q_num {q : Int} (h : 0 ≤ q) (g : q ≤ 65535) : Num q := by unfold Num; omega
theorem fin_bd {x y : Int} (h : VB (x, y)) (g : ¬ Ent x y) : -2147483648 < x ∧ y < 2147483648 ∧ x ≤ y := by
  have h : VI x y := h
  unfold VI Ent Num at *
  omega
theorem num_snoc {m : List Int} {x : Int} (h : ∀ z ∈ m, Num z) (hx : Num x) : ∀ z ∈ m ++ [x], Num z := by
  intro z hz
  rcases List.mem_append.1 hz with h' | h'
  · exact h z h'
  · rw [List.mem_singleton.1 h']; exact hx
theorem con_snoc {l : List (Int × Int)} {m : List Int} {p : Int × Int} {x : Int} (h : ((l.take m.length).zip m).all con1 = true) (hp : l[m.length]? = some p) (hx : con1 (p, x) = true) :
    ((l.take (m ++ [x]).length).zip (m ++ [x])).all con1 = true := by
  have hlt := (List.getElem?_eq_some_iff.1 hp).1
  rw [List.length_append, List.length_singleton, List.take_add_one, hp, List.zip_append (by rw [List.length_take]; omega), List.all_append, h]
  simpa using hx

end Go.Proofs.Ytmcdkbnpcmiojaa
