/-
  What the laws over matrices share.
-/
import Derived.Test.YtmcdkbnpcmiojaaSan4
import Derived.Test.YtmcdkbnpcmiojaaMatMath
import Derived.Test.YtmcdkbnpcmiojaaL4A
namespace Go.Proofs.Ytmcdkbnpcmiojaa
open Go.ChangeShapes Go.WideShapes Go.ChangeAt Go.RowKit
set_option linter.unusedVariables false
set_option linter.unusedSimpArgs false
set_option maxRecDepth 100000

attribute [local irreducible] Calls
theorem qm_mx {Pr : Int × Int → Prop} {k B : Nat} {w : World} {u : Value} {us : List Value} {M : List (List (Int × Int))} (h : QM Pr k M) (hO : OwnM B w u us M) (hk : k ≤ 6) : Mx w u M :=
  hO.mx (by rw [h.1]; unfold maxLen; omega) fun r hr => by rw [(h.2 r hr).1]; unfold maxLen; omega
theorem smat_mx {Pr : Int × Int → Prop} {k B0 : Nat} {w : World} {u : Value} (h : SMat Pr k B0 u w) (hk : k ≤ 6) : ∃ M, QM Pr k M ∧ Mx w u M := by
  obtain ⟨B, us, M, _, hq, hO⟩ := h
  exact ⟨M, hq, qm_mx hq hO hk⟩
theorem ident_k (k : Nat) (w : World) (h1 : 1 ≤ k) (h6 : k ≤ 6) :
    Calls Try.prog 25 #[.int .i64 (k : Int)] w fun e w' => ∃ u, e = .returned u ∧ Mx w' u (matOf idF k) ∧ Below w.heap.size w w' := mx_ident k w h1 h6
theorem transp_k (v : Value) (X : List (List (Int × Int))) (k : Nat) (w : World) (h : Mx w v X) (hX : Sq k X) (h1 : 1 ≤ k) (h6 : k ≤ 6) :
    Calls Try.prog 20 #[v] w fun e w' => ∃ u, e = .returned u ∧ Mx w' u (trM k X) ∧ Below w.heap.size w w' := mx_transpose v X k w h hX.1 (fun r hr => (hX.2 r hr).1) h1 h6
theorem mul_k (v u : Value) (X Y : List (List (Int × Int))) (k : Nat) (w : World) (h : Mx w v X) (g : Mx w u Y) (hX : Sq k X) (hY : Sq k Y) (h1 : 1 ≤ k) (h6 : k ≤ 6) :
    Calls Try.prog 19 #[v, u] w fun e w' => ∃ u, e = .returned u ∧ Mx w' u (mulT k X Y) ∧ Below w.heap.size w w' := mx_mul v u X Y k w h g hX hY h1 h6
def apM (X : List (List (Int × Int))) (d : List (Int × Int)) : List (Int × Int) := X.map fun r => dotI (r.zip d)
theorem apply_k (v u : Value) (X : List (List (Int × Int))) (d : List (Int × Int)) (k : Nat) (w : World) (h : Mx w v X) (g : Bx w u d) (hX : Sq k X) (hl : d.length = k) (hd : ∀ p ∈ d, VB p) (h6 : k ≤ 6) :
    Calls Try.prog 17 #[v, u] w fun e w' => ∃ u, e = .returned u ∧ Bx w' u (apM X d) ∧ Below w.heap.size w w' := mx_apply v u X d k w h g (by rw [hX.1]; omega) hX.2 hl hd
theorem same_k (v u : Value) (X Y : List (List (Int × Int))) (w : World) (h : Mx w v X) (g : Mx w u Y) (e : X = Y) :
    Calls Try.prog 24 #[v, u] w fun e w' => e = .returned (.bool true) ∧ Below w.heap.size w w' := by
  have := r4same v u X Y w h g
  rw [decide_eq_true e] at this
  exact this
theorem same_b (v u : Value) (X Y : List (Int × Int)) (w : World) (h : Bx w v X) (g : Bx w u Y) (e : X = Y) :
    Calls Try.prog 23 #[v, u] w fun e w' => e = .returned (.bool true) ∧ Below w.heap.size w w' := by
  have := r3same v u X Y w h g
  rw [decide_eq_true e] at this
  exact this
theorem pt_shape {w : World} {v : Value} {l : List Int} {n : Nat} (h : Pt w v l) (hn : l.length = n) : ∃ p c, v = .slice p n c := by
  obtain ⟨_, p, c, rfl, _⟩ := h
  rw [hn]
  exact ⟨p, c, rfl⟩
end Go.Proofs.Ytmcdkbnpcmiojaa
