/-
  box.Inflate's closure.
  box.Inflate, box.Mid, box.Point.
-/
import Derived.Test.YtmcdkbnpcmiojaaSqd
import Derived.Test.YtmcdkbnpcmiojaaIw1
import Derived.Test.YtmcdkbnpcmiojaaMap
import Derived.Laws.MakeOwn
namespace Go.Proofs.Ytmcdkbnpcmiojaa
open Go.ChangeShapes Go.WideShapes Go.ChangeAt Go.RowKit
set_option linter.unusedVariables false
set_option linter.unusedSimpArgs false
set_option maxRecDepth 100000

attribute [local irreducible] Calls
open Go.BigFrame
attribute [local go_sem ↓] run_max_two run_min_two run_max_three

def inflI (d : Int) (p : Int × Int) : Int × Int := if Ent p.1 p.2 then p else (mkLo (p.1 - d) (p.2 + d), mkHi (p.1 - d) (p.2 + d))



end Go.Proofs.Ytmcdkbnpcmiojaa

namespace Go.Proofs.Ytmcdkbnpcmiojaa
open Go.ChangeShapes Go.WideShapes Go.ChangeAt Go.RowKit
set_option linter.unusedVariables false
set_option linter.unusedSimpArgs false
set_option maxRecDepth 100000



set_option maxHeartbeats 1000000 in
theorem box_mid (v : Value) (l : List (Int × Int)) (w : World) (hv : Bx w v l) (hsm : l.length ≤ 1000) (hv' : ∀ p ∈ l, VB p) :
    Calls Try.prog 51 #[v] w fun e W' => ∃ u, e = .returned u ∧ Pt W' u (l.map midI) ∧ Below w.heap.size w W' := by
  have c1 := map_mid v l w hv hsm hv'
  obtain ⟨hl, p, c, rfl, hp⟩ := hv
  clear hp hl
  generalize l.map midI = r at *
  go_enter Try.func51, Try.ntmps51
  go_wp2_with (fail)
  refine c1.mono ?_
  rintro e w1 ⟨u, rfl, hu, hB⟩
  go_wp2_with (fail)
  go_ret
  exact ⟨_, rfl, hu, hB⟩

set_option maxHeartbeats 1000000 in
theorem box_point (v : Value) (l : List Int) (w : World) (hv : Pt w v l) (hsm : l.length ≤ 1000) :
    Calls Try.prog 34 #[v] w fun e W' => ∃ u, e = .returned u ∧ Bx W' u (l.map ptI) ∧ Below w.heap.size w W' := by
  have c1 := map_point v l w hv hsm
  obtain ⟨hl, p, c, rfl, hp⟩ := hv
  clear hp hl
  generalize l.map ptI = r at *
  go_enter Try.func34, Try.ntmps34
  go_wp2_with (fail)
  refine c1.mono ?_
  rintro e w1 ⟨u, rfl, hu, hB⟩
  go_wp2_with (fail)
  go_ret
  exact ⟨_, rfl, hu, hB⟩

end Go.Proofs.Ytmcdkbnpcmiojaa
