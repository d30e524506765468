/-
  No cell of these rows narrows 'for every input' (looked for: loops, veiled, ifaces, maps, wideKeys, modest, calm, conditions, laid).
  DERIVED. THE GIVEN ROWS OF THIS SEAT. 8 by the template 'for every input the law returns true; each argument reads behind the call as it read before'; 0 by the template 'total and deterministic' (their statements: YtecmgiihacigaaaTotals.lean).
  GIVEN WITH THE SEED: the statements are not yours to turn. If you find one false, say at which input.
  Laid BY PROGRAM, IN A SANDBOX (cutbox-rows.mjs): the forced cells as the released guide's own fill.sh prints them over the translation 96dfe681cdf15a97… (all of the seat's roots in one cut). By AI agents, Wed Nov 11 2026. No macro, syntax, notation, axiom, sorry.
-/
import Derived.Test.YtecmgiihacigaaaChecked
import GoSem.Claim
import GoSem.ClaimJoined
import GoSem.ClaimMapViews
import Derived.JoinedTies
import Derived.KernelRfl
namespace Go.Proofs.Ytecmgiihacigaaa
/- THE CELL 'sum', in the pinned program and in every row, IS THE sha256 OF THE DUMP (.gsa) THAT YtecmgiihacigaaaProg.lean LOADS. Nothing in Lean hashes anything: it is a label: what it is worth is what the hold of that sum in a sandbox is worth. -/
noncomputable def Try.pinned : Pinned := { name := "ytecmgiihacigaaa", sum := "96dfe681cdf15a974e6279ca94a75f6fd28346b39ef181c65520d59bccb86efc", checked := Try.checked }
namespace Rows
def none {H : Type} : Left H := { results := [], args := [] }

/-- 'armillarylaw11.PicardMatchesReference': WHATEVER THE INPUT: true; the input reads as it did. -/
def picardMatchesReferenceSpec : ChangeSpec := { name := "picardMatchesReference", fn := fun _ => fun
  | [d1, d2] => { results := [.lit (.bool true)], args := [d1, d2] }
  | _ => none }
def picardMatchesReferenceRow : OpenClaim := { program := "ytecmgiihacigaaa", sum := "96dfe681cdf15a974e6279ca94a75f6fd28346b39ef181c65520d59bccb86efc", func := "armillary/armillarylaw11.PicardMatchesReference", spec := "picardMatchesReference", unfollowed := true, recurses := true, apart := false }
def PicardMatchesReferenceSaid : Prop := picardMatchesReferenceRow.holds Try.pinned (OpenSpec.ofChange picardMatchesReferenceSpec)

/-- ITS FALSE NEIGHBOUR: 'it returns false'. Refute it at one input. -/
def picardMatchesReferenceWrong : ChangeSpec := { name := "picardMatchesReference", fn := fun _ => fun
  | [d1, d2] => { results := [.lit (.bool false)], args := [d1, d2] }
  | _ => none }
def PicardMatchesReferenceWrongFalsely : Prop := picardMatchesReferenceRow.holds Try.pinned (OpenSpec.ofChange picardMatchesReferenceWrong)

/-- 'armillarylaw11.PicardEnclosureValidates': WHATEVER THE INPUT: true; the input reads as it did. -/
def picardEnclosureValidatesSpec : ChangeSpec := { name := "picardEnclosureValidates", fn := fun _ => fun
  | [d] => { results := [.lit (.bool true)], args := [d] }
  | _ => none }
def picardEnclosureValidatesRow : OpenClaim := { program := "ytecmgiihacigaaa", sum := "96dfe681cdf15a974e6279ca94a75f6fd28346b39ef181c65520d59bccb86efc", func := "armillary/armillarylaw11.PicardEnclosureValidates", spec := "picardEnclosureValidates", unfollowed := true, recurses := true, apart := false }
def PicardEnclosureValidatesSaid : Prop := picardEnclosureValidatesRow.holds Try.pinned (OpenSpec.ofChange picardEnclosureValidatesSpec)

/-- ITS FALSE NEIGHBOUR: 'it returns false'. Refute it at one input. -/
def picardEnclosureValidatesWrong : ChangeSpec := { name := "picardEnclosureValidates", fn := fun _ => fun
  | [d] => { results := [.lit (.bool false)], args := [d] }
  | _ => none }
def PicardEnclosureValidatesWrongFalsely : Prop := picardEnclosureValidatesRow.holds Try.pinned (OpenSpec.ofChange picardEnclosureValidatesWrong)

/-- 'armillarylaw11.PicardImageIsotonic': WHATEVER THE INPUT: true; the input reads as it did. -/
def picardImageIsotonicSpec : ChangeSpec := { name := "picardImageIsotonic", fn := fun _ => fun
  | [d1, d2, d3] => { results := [.lit (.bool true)], args := [d1, d2, d3] }
  | _ => none }
def picardImageIsotonicRow : OpenClaim := { program := "ytecmgiihacigaaa", sum := "96dfe681cdf15a974e6279ca94a75f6fd28346b39ef181c65520d59bccb86efc", func := "armillary/armillarylaw11.PicardImageIsotonic", spec := "picardImageIsotonic", unfollowed := true, recurses := true, apart := false }
def PicardImageIsotonicSaid : Prop := picardImageIsotonicRow.holds Try.pinned (OpenSpec.ofChange picardImageIsotonicSpec)

/-- ITS FALSE NEIGHBOUR: 'it returns false'. Refute it at one input. -/
def picardImageIsotonicWrong : ChangeSpec := { name := "picardImageIsotonic", fn := fun _ => fun
  | [d1, d2, d3] => { results := [.lit (.bool false)], args := [d1, d2, d3] }
  | _ => none }
def PicardImageIsotonicWrongFalsely : Prop := picardImageIsotonicRow.holds Try.pinned (OpenSpec.ofChange picardImageIsotonicWrong)

/-- 'armillarylaw11.PicardSmallerProblem': WHATEVER THE INPUT: true; the input reads as it did. -/
def picardSmallerProblemSpec : ChangeSpec := { name := "picardSmallerProblem", fn := fun _ => fun
  | [d1, d2, d3] => { results := [.lit (.bool true)], args := [d1, d2, d3] }
  | _ => none }
def picardSmallerProblemRow : OpenClaim := { program := "ytecmgiihacigaaa", sum := "96dfe681cdf15a974e6279ca94a75f6fd28346b39ef181c65520d59bccb86efc", func := "armillary/armillarylaw11.PicardSmallerProblem", spec := "picardSmallerProblem", unfollowed := true, recurses := true, apart := false }
def PicardSmallerProblemSaid : Prop := picardSmallerProblemRow.holds Try.pinned (OpenSpec.ofChange picardSmallerProblemSpec)

/-- ITS FALSE NEIGHBOUR: 'it returns false'. Refute it at one input. -/
def picardSmallerProblemWrong : ChangeSpec := { name := "picardSmallerProblem", fn := fun _ => fun
  | [d1, d2, d3] => { results := [.lit (.bool false)], args := [d1, d2, d3] }
  | _ => none }
def PicardSmallerProblemWrongFalsely : Prop := picardSmallerProblemRow.holds Try.pinned (OpenSpec.ofChange picardSmallerProblemWrong)

/-- 'armillarylaw11.PicardRefinement': WHATEVER THE INPUT: true; the input reads as it did. -/
def picardRefinementSpec : ChangeSpec := { name := "picardRefinement", fn := fun _ => fun
  | [d] => { results := [.lit (.bool true)], args := [d] }
  | _ => none }
def picardRefinementRow : OpenClaim := { program := "ytecmgiihacigaaa", sum := "96dfe681cdf15a974e6279ca94a75f6fd28346b39ef181c65520d59bccb86efc", func := "armillary/armillarylaw11.PicardRefinement", spec := "picardRefinement", unfollowed := true, recurses := true, apart := false }
def PicardRefinementSaid : Prop := picardRefinementRow.holds Try.pinned (OpenSpec.ofChange picardRefinementSpec)

/-- ITS FALSE NEIGHBOUR: 'it returns false'. Refute it at one input. -/
def picardRefinementWrong : ChangeSpec := { name := "picardRefinement", fn := fun _ => fun
  | [d] => { results := [.lit (.bool false)], args := [d] }
  | _ => none }
def PicardRefinementWrongFalsely : Prop := picardRefinementRow.holds Try.pinned (OpenSpec.ofChange picardRefinementWrong)

/-- 'armillarylaw11.PicardPaths': WHATEVER THE INPUT: true; the input reads as it did. -/
def picardPathsSpec : ChangeSpec := { name := "picardPaths", fn := fun _ => fun
  | [d1, d2, d3] => { results := [.lit (.bool true)], args := [d1, d2, d3] }
  | _ => none }
def picardPathsRow : OpenClaim := { program := "ytecmgiihacigaaa", sum := "96dfe681cdf15a974e6279ca94a75f6fd28346b39ef181c65520d59bccb86efc", func := "armillary/armillarylaw11.PicardPaths", spec := "picardPaths", unfollowed := true, recurses := true, apart := false }
def PicardPathsSaid : Prop := picardPathsRow.holds Try.pinned (OpenSpec.ofChange picardPathsSpec)

/-- ITS FALSE NEIGHBOUR: 'it returns false'. Refute it at one input. -/
def picardPathsWrong : ChangeSpec := { name := "picardPaths", fn := fun _ => fun
  | [d1, d2, d3] => { results := [.lit (.bool false)], args := [d1, d2, d3] }
  | _ => none }
def PicardPathsWrongFalsely : Prop := picardPathsRow.holds Try.pinned (OpenSpec.ofChange picardPathsWrong)

/-- 'armillarylaw11.PicardConstant': WHATEVER THE INPUT: true; the input reads as it did. -/
def picardConstantSpec : ChangeSpec := { name := "picardConstant", fn := fun _ => fun
  | [d1, d2] => { results := [.lit (.bool true)], args := [d1, d2] }
  | _ => none }
def picardConstantRow : OpenClaim := { program := "ytecmgiihacigaaa", sum := "96dfe681cdf15a974e6279ca94a75f6fd28346b39ef181c65520d59bccb86efc", func := "armillary/armillarylaw11.PicardConstant", spec := "picardConstant", unfollowed := true, recurses := true, apart := false }
def PicardConstantSaid : Prop := picardConstantRow.holds Try.pinned (OpenSpec.ofChange picardConstantSpec)

/-- ITS FALSE NEIGHBOUR: 'it returns false'. Refute it at one input. -/
def picardConstantWrong : ChangeSpec := { name := "picardConstant", fn := fun _ => fun
  | [d1, d2] => { results := [.lit (.bool false)], args := [d1, d2] }
  | _ => none }
def PicardConstantWrongFalsely : Prop := picardConstantRow.holds Try.pinned (OpenSpec.ofChange picardConstantWrong)

/-- 'armillarylaw11.PicardAutonomous': WHATEVER THE INPUT: true; the input reads as it did. -/
def picardAutonomousSpec : ChangeSpec := { name := "picardAutonomous", fn := fun _ => fun
  | [d1, d2] => { results := [.lit (.bool true)], args := [d1, d2] }
  | _ => none }
def picardAutonomousRow : OpenClaim := { program := "ytecmgiihacigaaa", sum := "96dfe681cdf15a974e6279ca94a75f6fd28346b39ef181c65520d59bccb86efc", func := "armillary/armillarylaw11.PicardAutonomous", spec := "picardAutonomous", unfollowed := true, recurses := true, apart := false }
def PicardAutonomousSaid : Prop := picardAutonomousRow.holds Try.pinned (OpenSpec.ofChange picardAutonomousSpec)

/-- ITS FALSE NEIGHBOUR: 'it returns false'. Refute it at one input. -/
def picardAutonomousWrong : ChangeSpec := { name := "picardAutonomous", fn := fun _ => fun
  | [d1, d2] => { results := [.lit (.bool false)], args := [d1, d2] }
  | _ => none }
def PicardAutonomousWrongFalsely : Prop := picardAutonomousRow.holds Try.pinned (OpenSpec.ofChange picardAutonomousWrong)

/- THE SECOND FORM. 'bulk': how many values and letters a reading holds, each counted each time it is reached (what is shared counts as often as it is met; a slice's spare places count too). A statement '..UptoSaid' is the law's where the arguments, and the package variables that the reading takes, are together of bulk at most 1048576: NARROWER than '..Said'. Prove '..Said' where nothing that the law and all that it calls make is longer than what came in: it says more and counts as full. Else prove '..UptoSaid'. A law counts once. -/
mutual
def uptoBulk {H : Type} : DataW H → Nat
  | .lit (.string bytes) => bytes.length + 1
  | .lit _ => 1
  | .nil => 1
  | .ptr d => uptoBulk d + 1
  | .slice elems spare => uptoBulkAll elems + uptoBulkAll spare + 1
  | .agg parts => uptoBulkAll parts + 1
  | .iface _ d => uptoBulk d + 1
  | .map entries => uptoBulkEntries entries + 1
  | .held _ => 1
def uptoBulkAll {H : Type} : List (DataW H) → Nat
  | [] => 0
  | d :: r => uptoBulk d + uptoBulkAll r
def uptoBulkEntries {H : Type} : List (Lit × DataW H) → Nat
  | [] => 0
  | x :: r => uptoBulkEntry x + uptoBulkEntries r
def uptoBulkEntry {H : Type} : Lit × DataW H → Nat
  | (.string bytes, d) => bytes.length + uptoBulk d + 1
  | (_, d) => uptoBulk d + 1
 end
def uptoSmall : (H : Type) → List (DataW H) → Bool := fun _ ds => decide (uptoBulkAll ds ≤ 1048576)
def OpenSpec.upto (s : _root_.Go.ChangeSpec) : _root_.Go.OpenSpec := { _root_.Go.OpenSpec.ofChange s with cond := some uptoSmall }

/-- 'armillarylaw11.PicardMatchesReference', WHERE WHAT IT READS IS OF BULK AT MOST 1048576: true; the input reads as it did. -/
def picardMatchesReferenceUptoRow : OpenClaim := { program := "ytecmgiihacigaaa", sum := "96dfe681cdf15a974e6279ca94a75f6fd28346b39ef181c65520d59bccb86efc", func := "armillary/armillarylaw11.PicardMatchesReference", spec := "picardMatchesReference", unfollowed := true, recurses := true, apart := false, narrowed := true }
def PicardMatchesReferenceUptoSaid : Prop := picardMatchesReferenceUptoRow.holds Try.pinned (OpenSpec.upto picardMatchesReferenceSpec)

/-- 'armillarylaw11.PicardEnclosureValidates', WHERE WHAT IT READS IS OF BULK AT MOST 1048576: true; the input reads as it did. -/
def picardEnclosureValidatesUptoRow : OpenClaim := { program := "ytecmgiihacigaaa", sum := "96dfe681cdf15a974e6279ca94a75f6fd28346b39ef181c65520d59bccb86efc", func := "armillary/armillarylaw11.PicardEnclosureValidates", spec := "picardEnclosureValidates", unfollowed := true, recurses := true, apart := false, narrowed := true }
def PicardEnclosureValidatesUptoSaid : Prop := picardEnclosureValidatesUptoRow.holds Try.pinned (OpenSpec.upto picardEnclosureValidatesSpec)

/-- 'armillarylaw11.PicardImageIsotonic', WHERE WHAT IT READS IS OF BULK AT MOST 1048576: true; the input reads as it did. -/
def picardImageIsotonicUptoRow : OpenClaim := { program := "ytecmgiihacigaaa", sum := "96dfe681cdf15a974e6279ca94a75f6fd28346b39ef181c65520d59bccb86efc", func := "armillary/armillarylaw11.PicardImageIsotonic", spec := "picardImageIsotonic", unfollowed := true, recurses := true, apart := false, narrowed := true }
def PicardImageIsotonicUptoSaid : Prop := picardImageIsotonicUptoRow.holds Try.pinned (OpenSpec.upto picardImageIsotonicSpec)

/-- 'armillarylaw11.PicardSmallerProblem', WHERE WHAT IT READS IS OF BULK AT MOST 1048576: true; the input reads as it did. -/
def picardSmallerProblemUptoRow : OpenClaim := { program := "ytecmgiihacigaaa", sum := "96dfe681cdf15a974e6279ca94a75f6fd28346b39ef181c65520d59bccb86efc", func := "armillary/armillarylaw11.PicardSmallerProblem", spec := "picardSmallerProblem", unfollowed := true, recurses := true, apart := false, narrowed := true }
def PicardSmallerProblemUptoSaid : Prop := picardSmallerProblemUptoRow.holds Try.pinned (OpenSpec.upto picardSmallerProblemSpec)

/-- 'armillarylaw11.PicardRefinement', WHERE WHAT IT READS IS OF BULK AT MOST 1048576: true; the input reads as it did. -/
def picardRefinementUptoRow : OpenClaim := { program := "ytecmgiihacigaaa", sum := "96dfe681cdf15a974e6279ca94a75f6fd28346b39ef181c65520d59bccb86efc", func := "armillary/armillarylaw11.PicardRefinement", spec := "picardRefinement", unfollowed := true, recurses := true, apart := false, narrowed := true }
def PicardRefinementUptoSaid : Prop := picardRefinementUptoRow.holds Try.pinned (OpenSpec.upto picardRefinementSpec)

/-- 'armillarylaw11.PicardPaths', WHERE WHAT IT READS IS OF BULK AT MOST 1048576: true; the input reads as it did. -/
def picardPathsUptoRow : OpenClaim := { program := "ytecmgiihacigaaa", sum := "96dfe681cdf15a974e6279ca94a75f6fd28346b39ef181c65520d59bccb86efc", func := "armillary/armillarylaw11.PicardPaths", spec := "picardPaths", unfollowed := true, recurses := true, apart := false, narrowed := true }
def PicardPathsUptoSaid : Prop := picardPathsUptoRow.holds Try.pinned (OpenSpec.upto picardPathsSpec)

/-- 'armillarylaw11.PicardConstant', WHERE WHAT IT READS IS OF BULK AT MOST 1048576: true; the input reads as it did. -/
def picardConstantUptoRow : OpenClaim := { program := "ytecmgiihacigaaa", sum := "96dfe681cdf15a974e6279ca94a75f6fd28346b39ef181c65520d59bccb86efc", func := "armillary/armillarylaw11.PicardConstant", spec := "picardConstant", unfollowed := true, recurses := true, apart := false, narrowed := true }
def PicardConstantUptoSaid : Prop := picardConstantUptoRow.holds Try.pinned (OpenSpec.upto picardConstantSpec)

/-- 'armillarylaw11.PicardAutonomous', WHERE WHAT IT READS IS OF BULK AT MOST 1048576: true; the input reads as it did. -/
def picardAutonomousUptoRow : OpenClaim := { program := "ytecmgiihacigaaa", sum := "96dfe681cdf15a974e6279ca94a75f6fd28346b39ef181c65520d59bccb86efc", func := "armillary/armillarylaw11.PicardAutonomous", spec := "picardAutonomous", unfollowed := true, recurses := true, apart := false, narrowed := true }
def PicardAutonomousUptoSaid : Prop := picardAutonomousUptoRow.holds Try.pinned (OpenSpec.upto picardAutonomousSpec)

end Rows
end Go.Proofs.Ytecmgiihacigaaa
