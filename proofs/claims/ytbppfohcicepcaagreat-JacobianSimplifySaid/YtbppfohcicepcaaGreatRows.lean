/-
  No cell of these rows narrows 'for every input' (looked for: loops, veiled, ifaces, maps, wideKeys, modest, calm, conditions, laid).
  DERIVED. THE GIVEN ROWS OF THIS SEAT. 5 by the template 'for every input the law returns true; each argument reads behind the call as it read before'; 0 by the template 'total and deterministic' (their statements: YtbppfohcicepcaaGreatTotals.lean).
  GIVEN WITH THE SEED: the statements are not yours to turn. If you find one false, say at which input.
  Laid BY PROGRAM, IN A SANDBOX (cutbox-rows.mjs): the forced cells as the released guide's own fill.sh prints them over the translation 3a87d0311f3e8573… (all of the seat's roots in one cut). By AI agents, Wed Nov 11 2026. No macro, syntax, notation, axiom, sorry.
-/
import Derived.Test.YtbppfohcicepcaaGreatChecked
import GoSem.Claim
import GoSem.ClaimJoined
import GoSem.ClaimMapViews
import Derived.JoinedTies
import Derived.KernelRfl
namespace Go.Proofs.YtbppfohcicepcaaGreat
/- THE CELL 'sum', in the pinned program and in every row, IS THE sha256 OF THE DUMP (.gsa) THAT YtbppfohcicepcaaGreatProg.lean LOADS. Nothing in Lean hashes anything: it is a label: what it is worth is what the hold of that sum in a sandbox is worth. -/
noncomputable def Tryz.pinned : Pinned := { name := "ytbppfohcicepcaagreat", sum := "3a87d0311f3e85739d271d71b5dff1e0cd101ea9df3ca5799f7dcd5a544075ab", checked := Tryz.checked }
namespace Rows
def none {H : Type} : Left H := { results := [], args := [] }

/-- 'armillarylaw10.JacobianMatchesReference': WHATEVER THE INPUT: true; the input reads as it did. -/
def jacobianMatchesReferenceSpec : ChangeSpec := { name := "jacobianMatchesReference", fn := fun _ => fun
  | [d1, d2] => { results := [.lit (.bool true)], args := [d1, d2] }
  | _ => none }
def jacobianMatchesReferenceRow : OpenClaim := { program := "ytbppfohcicepcaagreat", sum := "3a87d0311f3e85739d271d71b5dff1e0cd101ea9df3ca5799f7dcd5a544075ab", func := "armillary/armillarylaw10.JacobianMatchesReference", spec := "jacobianMatchesReference", unfollowed := true, recurses := true, apart := false }
def JacobianMatchesReferenceSaid : Prop := jacobianMatchesReferenceRow.holds Tryz.pinned (OpenSpec.ofChange jacobianMatchesReferenceSpec)

/-- ITS FALSE NEIGHBOUR: 'it returns false'. Refute it at one input. -/
def jacobianMatchesReferenceWrong : ChangeSpec := { name := "jacobianMatchesReference", fn := fun _ => fun
  | [d1, d2] => { results := [.lit (.bool false)], args := [d1, d2] }
  | _ => none }
def JacobianMatchesReferenceWrongFalsely : Prop := jacobianMatchesReferenceRow.holds Tryz.pinned (OpenSpec.ofChange jacobianMatchesReferenceWrong)

/-- 'armillarylaw10.JacobianSimplify': WHATEVER THE INPUT: true; the input reads as it did. -/
def jacobianSimplifySpec : ChangeSpec := { name := "jacobianSimplify", fn := fun _ => fun
  | [d] => { results := [.lit (.bool true)], args := [d] }
  | _ => none }
def jacobianSimplifyRow : OpenClaim := { program := "ytbppfohcicepcaagreat", sum := "3a87d0311f3e85739d271d71b5dff1e0cd101ea9df3ca5799f7dcd5a544075ab", func := "armillary/armillarylaw10.JacobianSimplify", spec := "jacobianSimplify", unfollowed := true, recurses := true, apart := false }
def JacobianSimplifySaid : Prop := jacobianSimplifyRow.holds Tryz.pinned (OpenSpec.ofChange jacobianSimplifySpec)

/-- ITS FALSE NEIGHBOUR: 'it returns false'. Refute it at one input. -/
def jacobianSimplifyWrong : ChangeSpec := { name := "jacobianSimplify", fn := fun _ => fun
  | [d] => { results := [.lit (.bool false)], args := [d] }
  | _ => none }
def JacobianSimplifyWrongFalsely : Prop := jacobianSimplifyRow.holds Tryz.pinned (OpenSpec.ofChange jacobianSimplifyWrong)

/-- 'armillarylaw10.JacobianPolynomials': WHATEVER THE INPUT: true; the input reads as it did. -/
def jacobianPolynomialsSpec : ChangeSpec := { name := "jacobianPolynomials", fn := fun _ => fun
  | [d1, d2] => { results := [.lit (.bool true)], args := [d1, d2] }
  | _ => none }
def jacobianPolynomialsRow : OpenClaim := { program := "ytbppfohcicepcaagreat", sum := "3a87d0311f3e85739d271d71b5dff1e0cd101ea9df3ca5799f7dcd5a544075ab", func := "armillary/armillarylaw10.JacobianPolynomials", spec := "jacobianPolynomials", unfollowed := true, recurses := true, apart := false }
def JacobianPolynomialsSaid : Prop := jacobianPolynomialsRow.holds Tryz.pinned (OpenSpec.ofChange jacobianPolynomialsSpec)

/-- ITS FALSE NEIGHBOUR: 'it returns false'. Refute it at one input. -/
def jacobianPolynomialsWrong : ChangeSpec := { name := "jacobianPolynomials", fn := fun _ => fun
  | [d1, d2] => { results := [.lit (.bool false)], args := [d1, d2] }
  | _ => none }
def JacobianPolynomialsWrongFalsely : Prop := jacobianPolynomialsRow.holds Tryz.pinned (OpenSpec.ofChange jacobianPolynomialsWrong)

/-- 'armillarylaw10.JacobianLinearity': WHATEVER THE INPUT: true; the input reads as it did. -/
def jacobianLinearitySpec : ChangeSpec := { name := "jacobianLinearity", fn := fun _ => fun
  | [d1, d2, d3] => { results := [.lit (.bool true)], args := [d1, d2, d3] }
  | _ => none }
def jacobianLinearityRow : OpenClaim := { program := "ytbppfohcicepcaagreat", sum := "3a87d0311f3e85739d271d71b5dff1e0cd101ea9df3ca5799f7dcd5a544075ab", func := "armillary/armillarylaw10.JacobianLinearity", spec := "jacobianLinearity", unfollowed := true, recurses := true, apart := false }
def JacobianLinearitySaid : Prop := jacobianLinearityRow.holds Tryz.pinned (OpenSpec.ofChange jacobianLinearitySpec)

/-- ITS FALSE NEIGHBOUR: 'it returns false'. Refute it at one input. -/
def jacobianLinearityWrong : ChangeSpec := { name := "jacobianLinearity", fn := fun _ => fun
  | [d1, d2, d3] => { results := [.lit (.bool false)], args := [d1, d2, d3] }
  | _ => none }
def JacobianLinearityWrongFalsely : Prop := jacobianLinearityRow.holds Tryz.pinned (OpenSpec.ofChange jacobianLinearityWrong)

/-- 'armillarylaw10.JacobianCoordinates': WHATEVER THE INPUT: true; the input reads as it did. -/
def jacobianCoordinatesSpec : ChangeSpec := { name := "jacobianCoordinates", fn := fun _ => fun
  | [d1, d2] => { results := [.lit (.bool true)], args := [d1, d2] }
  | _ => none }
def jacobianCoordinatesRow : OpenClaim := { program := "ytbppfohcicepcaagreat", sum := "3a87d0311f3e85739d271d71b5dff1e0cd101ea9df3ca5799f7dcd5a544075ab", func := "armillary/armillarylaw10.JacobianCoordinates", spec := "jacobianCoordinates", unfollowed := true, recurses := true, apart := false }
def JacobianCoordinatesSaid : Prop := jacobianCoordinatesRow.holds Tryz.pinned (OpenSpec.ofChange jacobianCoordinatesSpec)

/-- ITS FALSE NEIGHBOUR: 'it returns false'. Refute it at one input. -/
def jacobianCoordinatesWrong : ChangeSpec := { name := "jacobianCoordinates", fn := fun _ => fun
  | [d1, d2] => { results := [.lit (.bool false)], args := [d1, d2] }
  | _ => none }
def JacobianCoordinatesWrongFalsely : Prop := jacobianCoordinatesRow.holds Tryz.pinned (OpenSpec.ofChange jacobianCoordinatesWrong)

/- THE SECOND FORM. 'bulk': how many values and letters a reading holds, each counted each time it is reached (what is shared counts as often as it is met; a slice's spare places count too). A statement '..UptoSaid' is the law's where the arguments, and the package variables that the reading takes, are together of bulk at most 1048576: NARROWER than '..Said'. Prove '..Said' where nothing that the law and all that it calls make is longer than what came in: it says more and counts as full. Else prove '..UptoSaid'. A law counts once. -/
mutual
def uptoBulk {H : Type} : DataW H → Nat
  | .lit (.string bytes) => bytes.length + 1
  | .lit _ => 1
  | .nil => 1
  | .ptr d => uptoBulk d + 1
  | .slice elems spare => uptoBulkAll elems + uptoBulkAll spare + 1
  | .agg parts => uptoBulkAll parts + 1
  | .iface _ d => uptoBulk d + 1
  | .map entries => uptoBulkEntries entries + 1
  | .held _ => 1
def uptoBulkAll {H : Type} : List (DataW H) → Nat
  | [] => 0
  | d :: r => uptoBulk d + uptoBulkAll r
def uptoBulkEntries {H : Type} : List (Lit × DataW H) → Nat
  | [] => 0
  | x :: r => uptoBulkEntry x + uptoBulkEntries r
def uptoBulkEntry {H : Type} : Lit × DataW H → Nat
  | (.string bytes, d) => bytes.length + uptoBulk d + 1
  | (_, d) => uptoBulk d + 1
 end
def uptoSmall : (H : Type) → List (DataW H) → Bool := fun _ ds => decide (uptoBulkAll ds ≤ 1048576)
def OpenSpec.upto (s : _root_.Go.ChangeSpec) : _root_.Go.OpenSpec := { _root_.Go.OpenSpec.ofChange s with cond := some uptoSmall }

/-- 'armillarylaw10.JacobianMatchesReference', WHERE WHAT IT READS IS OF BULK AT MOST 1048576: true; the input reads as it did. -/
def jacobianMatchesReferenceUptoRow : OpenClaim := { program := "ytbppfohcicepcaagreat", sum := "3a87d0311f3e85739d271d71b5dff1e0cd101ea9df3ca5799f7dcd5a544075ab", func := "armillary/armillarylaw10.JacobianMatchesReference", spec := "jacobianMatchesReference", unfollowed := true, recurses := true, apart := false, narrowed := true }
def JacobianMatchesReferenceUptoSaid : Prop := jacobianMatchesReferenceUptoRow.holds Tryz.pinned (OpenSpec.upto jacobianMatchesReferenceSpec)

/-- 'armillarylaw10.JacobianSimplify', WHERE WHAT IT READS IS OF BULK AT MOST 1048576: true; the input reads as it did. -/
def jacobianSimplifyUptoRow : OpenClaim := { program := "ytbppfohcicepcaagreat", sum := "3a87d0311f3e85739d271d71b5dff1e0cd101ea9df3ca5799f7dcd5a544075ab", func := "armillary/armillarylaw10.JacobianSimplify", spec := "jacobianSimplify", unfollowed := true, recurses := true, apart := false, narrowed := true }
def JacobianSimplifyUptoSaid : Prop := jacobianSimplifyUptoRow.holds Tryz.pinned (OpenSpec.upto jacobianSimplifySpec)

/-- 'armillarylaw10.JacobianPolynomials', WHERE WHAT IT READS IS OF BULK AT MOST 1048576: true; the input reads as it did. -/
def jacobianPolynomialsUptoRow : OpenClaim := { program := "ytbppfohcicepcaagreat", sum := "3a87d0311f3e85739d271d71b5dff1e0cd101ea9df3ca5799f7dcd5a544075ab", func := "armillary/armillarylaw10.JacobianPolynomials", spec := "jacobianPolynomials", unfollowed := true, recurses := true, apart := false, narrowed := true }
def JacobianPolynomialsUptoSaid : Prop := jacobianPolynomialsUptoRow.holds Tryz.pinned (OpenSpec.upto jacobianPolynomialsSpec)

/-- 'armillarylaw10.JacobianLinearity', WHERE WHAT IT READS IS OF BULK AT MOST 1048576: true; the input reads as it did. -/
def jacobianLinearityUptoRow : OpenClaim := { program := "ytbppfohcicepcaagreat", sum := "3a87d0311f3e85739d271d71b5dff1e0cd101ea9df3ca5799f7dcd5a544075ab", func := "armillary/armillarylaw10.JacobianLinearity", spec := "jacobianLinearity", unfollowed := true, recurses := true, apart := false, narrowed := true }
def JacobianLinearityUptoSaid : Prop := jacobianLinearityUptoRow.holds Tryz.pinned (OpenSpec.upto jacobianLinearitySpec)

/-- 'armillarylaw10.JacobianCoordinates', WHERE WHAT IT READS IS OF BULK AT MOST 1048576: true; the input reads as it did. -/
def jacobianCoordinatesUptoRow : OpenClaim := { program := "ytbppfohcicepcaagreat", sum := "3a87d0311f3e85739d271d71b5dff1e0cd101ea9df3ca5799f7dcd5a544075ab", func := "armillary/armillarylaw10.JacobianCoordinates", spec := "jacobianCoordinates", unfollowed := true, recurses := true, apart := false, narrowed := true }
def JacobianCoordinatesUptoSaid : Prop := jacobianCoordinatesUptoRow.holds Tryz.pinned (OpenSpec.upto jacobianCoordinatesSpec)

end Rows
end Go.Proofs.YtbppfohcicepcaaGreat
