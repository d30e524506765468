/-
  No cell of these rows narrows 'for every input' (looked for: loops, veiled, ifaces, maps, wideKeys, modest, calm, conditions, laid).
  DERIVED. THE GIVEN ROWS OF THIS SEAT. 9 by the template 'for every input the law returns true; each argument reads behind the call as it read before'; 0 by the template 'total and deterministic' (their statements: YtjjllfaehipemaaTotals.lean).
  GIVEN WITH THE SEED: the statements are not yours to turn. If you find one false, say at which input.
  Laid BY PROGRAM, IN A SANDBOX (cutbox-rows.mjs): the forced cells as the released guide's own fill.sh prints them over the translation e1577f78110fb853… (all of the seat's roots in one cut). By AI agents, Wed Nov 11 2026. No macro, syntax, notation, axiom, sorry.
-/
import Derived.Test.YtjjllfaehipemaaChecked
import GoSem.Claim
import GoSem.ClaimJoined
import GoSem.ClaimMapViews
import Derived.JoinedTies
import Derived.KernelRfl
namespace Go.Proofs.Ytjjllfaehipemaa
/- THE CELL 'sum', in the pinned program and in every row, IS THE sha256 OF THE DUMP (.gsa) THAT YtjjllfaehipemaaProg.lean LOADS. Nothing in Lean hashes anything: it is a label: what it is worth is what the hold of that sum in a sandbox is worth. -/
noncomputable def Try.pinned : Pinned := { name := "ytjjllfaehipemaa", sum := "e1577f78110fb8535cd7c999859bf6c45a84375718de3d1ca69c4a73b125877e", checked := Try.checked }
namespace Rows
def none {H : Type} : Left H := { results := [], args := [] }

/-- 'armillarylaw01.FixedMatchesReference': WHATEVER THE INPUT: true; the input reads as it did. -/
def fixedMatchesReferenceSpec : ChangeSpec := { name := "fixedMatchesReference", fn := fun _ => fun
  | [d1, d2, d3] => { results := [.lit (.bool true)], args := [d1, d2, d3] }
  | _ => none }
def fixedMatchesReferenceRow : OpenClaim := { program := "ytjjllfaehipemaa", sum := "e1577f78110fb8535cd7c999859bf6c45a84375718de3d1ca69c4a73b125877e", func := "armillary/armillarylaw01.FixedMatchesReference", spec := "fixedMatchesReference", unfollowed := true, recurses := true, apart := false }
def FixedMatchesReferenceSaid : Prop := fixedMatchesReferenceRow.holds Try.pinned (OpenSpec.ofChange fixedMatchesReferenceSpec)

/-- ITS FALSE NEIGHBOUR: 'it returns false'. Refute it at one input. -/
def fixedMatchesReferenceWrong : ChangeSpec := { name := "fixedMatchesReference", fn := fun _ => fun
  | [d1, d2, d3] => { results := [.lit (.bool false)], args := [d1, d2, d3] }
  | _ => none }
def FixedMatchesReferenceWrongFalsely : Prop := fixedMatchesReferenceRow.holds Try.pinned (OpenSpec.ofChange fixedMatchesReferenceWrong)

/-- 'armillarylaw01.FixedFormatMatchesReference': WHATEVER THE INPUT: true; the input reads as it did. -/
def fixedFormatMatchesReferenceSpec : ChangeSpec := { name := "fixedFormatMatchesReference", fn := fun _ => fun
  | [d1, d2] => { results := [.lit (.bool true)], args := [d1, d2] }
  | _ => none }
def fixedFormatMatchesReferenceRow : OpenClaim := { program := "ytjjllfaehipemaa", sum := "e1577f78110fb8535cd7c999859bf6c45a84375718de3d1ca69c4a73b125877e", func := "armillary/armillarylaw01.FixedFormatMatchesReference", spec := "fixedFormatMatchesReference", unfollowed := true, recurses := true, apart := false }
def FixedFormatMatchesReferenceSaid : Prop := fixedFormatMatchesReferenceRow.holds Try.pinned (OpenSpec.ofChange fixedFormatMatchesReferenceSpec)

/-- ITS FALSE NEIGHBOUR: 'it returns false'. Refute it at one input. -/
def fixedFormatMatchesReferenceWrong : ChangeSpec := { name := "fixedFormatMatchesReference", fn := fun _ => fun
  | [d1, d2] => { results := [.lit (.bool false)], args := [d1, d2] }
  | _ => none }
def FixedFormatMatchesReferenceWrongFalsely : Prop := fixedFormatMatchesReferenceRow.holds Try.pinned (OpenSpec.ofChange fixedFormatMatchesReferenceWrong)

/-- 'armillarylaw01.FixedRounding': WHATEVER THE INPUT: true; the input reads as it did. -/
def fixedRoundingSpec : ChangeSpec := { name := "fixedRounding", fn := fun _ => fun
  | [d1, d2, d3] => { results := [.lit (.bool true)], args := [d1, d2, d3] }
  | _ => none }
def fixedRoundingRow : OpenClaim := { program := "ytjjllfaehipemaa", sum := "e1577f78110fb8535cd7c999859bf6c45a84375718de3d1ca69c4a73b125877e", func := "armillary/armillarylaw01.FixedRounding", spec := "fixedRounding", unfollowed := true, recurses := true, apart := false }
def FixedRoundingSaid : Prop := fixedRoundingRow.holds Try.pinned (OpenSpec.ofChange fixedRoundingSpec)

/-- ITS FALSE NEIGHBOUR: 'it returns false'. Refute it at one input. -/
def fixedRoundingWrong : ChangeSpec := { name := "fixedRounding", fn := fun _ => fun
  | [d1, d2, d3] => { results := [.lit (.bool false)], args := [d1, d2, d3] }
  | _ => none }
def FixedRoundingWrongFalsely : Prop := fixedRoundingRow.holds Try.pinned (OpenSpec.ofChange fixedRoundingWrong)

/-- 'armillarylaw01.FixedQuotients': WHATEVER THE INPUT: true; the input reads as it did. -/
def fixedQuotientsSpec : ChangeSpec := { name := "fixedQuotients", fn := fun _ => fun
  | [d1, d2] => { results := [.lit (.bool true)], args := [d1, d2] }
  | _ => none }
def fixedQuotientsRow : OpenClaim := { program := "ytjjllfaehipemaa", sum := "e1577f78110fb8535cd7c999859bf6c45a84375718de3d1ca69c4a73b125877e", func := "armillary/armillarylaw01.FixedQuotients", spec := "fixedQuotients", unfollowed := true, recurses := true, apart := false }
def FixedQuotientsSaid : Prop := fixedQuotientsRow.holds Try.pinned (OpenSpec.ofChange fixedQuotientsSpec)

/-- ITS FALSE NEIGHBOUR: 'it returns false'. Refute it at one input. -/
def fixedQuotientsWrong : ChangeSpec := { name := "fixedQuotients", fn := fun _ => fun
  | [d1, d2] => { results := [.lit (.bool false)], args := [d1, d2] }
  | _ => none }
def FixedQuotientsWrongFalsely : Prop := fixedQuotientsRow.holds Try.pinned (OpenSpec.ofChange fixedQuotientsWrong)

/-- 'armillarylaw01.FixedRoots': WHATEVER THE INPUT: true; the input reads as it did. -/
def fixedRootsSpec : ChangeSpec := { name := "fixedRoots", fn := fun _ => fun
  | [d] => { results := [.lit (.bool true)], args := [d] }
  | _ => none }
def fixedRootsRow : OpenClaim := { program := "ytjjllfaehipemaa", sum := "e1577f78110fb8535cd7c999859bf6c45a84375718de3d1ca69c4a73b125877e", func := "armillary/armillarylaw01.FixedRoots", spec := "fixedRoots", unfollowed := true, recurses := true, apart := false }
def FixedRootsSaid : Prop := fixedRootsRow.holds Try.pinned (OpenSpec.ofChange fixedRootsSpec)

/-- ITS FALSE NEIGHBOUR: 'it returns false'. Refute it at one input. -/
def fixedRootsWrong : ChangeSpec := { name := "fixedRoots", fn := fun _ => fun
  | [d] => { results := [.lit (.bool false)], args := [d] }
  | _ => none }
def FixedRootsWrongFalsely : Prop := fixedRootsRow.holds Try.pinned (OpenSpec.ofChange fixedRootsWrong)

/-- 'armillarylaw01.FixedFormatRoundTrip': WHATEVER THE INPUT: true; the input reads as it did. -/
def fixedFormatRoundTripSpec : ChangeSpec := { name := "fixedFormatRoundTrip", fn := fun _ => fun
  | [d] => { results := [.lit (.bool true)], args := [d] }
  | _ => none }
def fixedFormatRoundTripRow : OpenClaim := { program := "ytjjllfaehipemaa", sum := "e1577f78110fb8535cd7c999859bf6c45a84375718de3d1ca69c4a73b125877e", func := "armillary/armillarylaw01.FixedFormatRoundTrip", spec := "fixedFormatRoundTrip", unfollowed := true, recurses := true, apart := false }
def FixedFormatRoundTripSaid : Prop := fixedFormatRoundTripRow.holds Try.pinned (OpenSpec.ofChange fixedFormatRoundTripSpec)

/-- ITS FALSE NEIGHBOUR: 'it returns false'. Refute it at one input. -/
def fixedFormatRoundTripWrong : ChangeSpec := { name := "fixedFormatRoundTrip", fn := fun _ => fun
  | [d] => { results := [.lit (.bool false)], args := [d] }
  | _ => none }
def FixedFormatRoundTripWrongFalsely : Prop := fixedFormatRoundTripRow.holds Try.pinned (OpenSpec.ofChange fixedFormatRoundTripWrong)

/-- 'armillarylaw01.FixedMonotonicity': WHATEVER THE INPUT: true; the input reads as it did. -/
def fixedMonotonicitySpec : ChangeSpec := { name := "fixedMonotonicity", fn := fun _ => fun
  | [d1, d2, d3] => { results := [.lit (.bool true)], args := [d1, d2, d3] }
  | _ => none }
def fixedMonotonicityRow : OpenClaim := { program := "ytjjllfaehipemaa", sum := "e1577f78110fb8535cd7c999859bf6c45a84375718de3d1ca69c4a73b125877e", func := "armillary/armillarylaw01.FixedMonotonicity", spec := "fixedMonotonicity", unfollowed := true, recurses := true, apart := false }
def FixedMonotonicitySaid : Prop := fixedMonotonicityRow.holds Try.pinned (OpenSpec.ofChange fixedMonotonicitySpec)

/-- ITS FALSE NEIGHBOUR: 'it returns false'. Refute it at one input. -/
def fixedMonotonicityWrong : ChangeSpec := { name := "fixedMonotonicity", fn := fun _ => fun
  | [d1, d2, d3] => { results := [.lit (.bool false)], args := [d1, d2, d3] }
  | _ => none }
def FixedMonotonicityWrongFalsely : Prop := fixedMonotonicityRow.holds Try.pinned (OpenSpec.ofChange fixedMonotonicityWrong)

/-- 'armillarylaw01.FixedSymmetry': WHATEVER THE INPUT: true; the input reads as it did. -/
def fixedSymmetrySpec : ChangeSpec := { name := "fixedSymmetry", fn := fun _ => fun
  | [d1, d2, d3] => { results := [.lit (.bool true)], args := [d1, d2, d3] }
  | _ => none }
def fixedSymmetryRow : OpenClaim := { program := "ytjjllfaehipemaa", sum := "e1577f78110fb8535cd7c999859bf6c45a84375718de3d1ca69c4a73b125877e", func := "armillary/armillarylaw01.FixedSymmetry", spec := "fixedSymmetry", unfollowed := true, recurses := true, apart := false }
def FixedSymmetrySaid : Prop := fixedSymmetryRow.holds Try.pinned (OpenSpec.ofChange fixedSymmetrySpec)

/-- ITS FALSE NEIGHBOUR: 'it returns false'. Refute it at one input. -/
def fixedSymmetryWrong : ChangeSpec := { name := "fixedSymmetry", fn := fun _ => fun
  | [d1, d2, d3] => { results := [.lit (.bool false)], args := [d1, d2, d3] }
  | _ => none }
def FixedSymmetryWrongFalsely : Prop := fixedSymmetryRow.holds Try.pinned (OpenSpec.ofChange fixedSymmetryWrong)

/-- 'armillarylaw01.FixedDecimals': WHATEVER THE INPUT: true; the input reads as it did. -/
def fixedDecimalsSpec : ChangeSpec := { name := "fixedDecimals", fn := fun _ => fun
  | [d1, d2, d3] => { results := [.lit (.bool true)], args := [d1, d2, d3] }
  | _ => none }
def fixedDecimalsRow : OpenClaim := { program := "ytjjllfaehipemaa", sum := "e1577f78110fb8535cd7c999859bf6c45a84375718de3d1ca69c4a73b125877e", func := "armillary/armillarylaw01.FixedDecimals", spec := "fixedDecimals", unfollowed := true, recurses := true, apart := false }
def FixedDecimalsSaid : Prop := fixedDecimalsRow.holds Try.pinned (OpenSpec.ofChange fixedDecimalsSpec)

/-- ITS FALSE NEIGHBOUR: 'it returns false'. Refute it at one input. -/
def fixedDecimalsWrong : ChangeSpec := { name := "fixedDecimals", fn := fun _ => fun
  | [d1, d2, d3] => { results := [.lit (.bool false)], args := [d1, d2, d3] }
  | _ => none }
def FixedDecimalsWrongFalsely : Prop := fixedDecimalsRow.holds Try.pinned (OpenSpec.ofChange fixedDecimalsWrong)

/- THE SECOND FORM. 'bulk': how many values and letters a reading holds, each counted each time it is reached (what is shared counts as often as it is met; a slice's spare places count too). A statement '..UptoSaid' is the law's where the arguments, and the package variables that the reading takes, are together of bulk at most 1048576: NARROWER than '..Said'. Prove '..Said' where nothing that the law and all that it calls make is longer than what came in: it says more and counts as full. Else prove '..UptoSaid'. A law counts once. -/
mutual
def uptoBulk {H : Type} : DataW H → Nat
  | .lit (.string bytes) => bytes.length + 1
  | .lit _ => 1
  | .nil => 1
  | .ptr d => uptoBulk d + 1
  | .slice elems spare => uptoBulkAll elems + uptoBulkAll spare + 1
  | .agg parts => uptoBulkAll parts + 1
  | .iface _ d => uptoBulk d + 1
  | .map entries => uptoBulkEntries entries + 1
  | .held _ => 1
def uptoBulkAll {H : Type} : List (DataW H) → Nat
  | [] => 0
  | d :: r => uptoBulk d + uptoBulkAll r
def uptoBulkEntries {H : Type} : List (Lit × DataW H) → Nat
  | [] => 0
  | x :: r => uptoBulkEntry x + uptoBulkEntries r
def uptoBulkEntry {H : Type} : Lit × DataW H → Nat
  | (.string bytes, d) => bytes.length + uptoBulk d + 1
  | (_, d) => uptoBulk d + 1
 end
def uptoSmall : (H : Type) → List (DataW H) → Bool := fun _ ds => decide (uptoBulkAll ds ≤ 1048576)
def OpenSpec.upto (s : _root_.Go.ChangeSpec) : _root_.Go.OpenSpec := { _root_.Go.OpenSpec.ofChange s with cond := some uptoSmall }

/-- 'armillarylaw01.FixedMatchesReference', WHERE WHAT IT READS IS OF BULK AT MOST 1048576: true; the input reads as it did. -/
def fixedMatchesReferenceUptoRow : OpenClaim := { program := "ytjjllfaehipemaa", sum := "e1577f78110fb8535cd7c999859bf6c45a84375718de3d1ca69c4a73b125877e", func := "armillary/armillarylaw01.FixedMatchesReference", spec := "fixedMatchesReference", unfollowed := true, recurses := true, apart := false, narrowed := true }
def FixedMatchesReferenceUptoSaid : Prop := fixedMatchesReferenceUptoRow.holds Try.pinned (OpenSpec.upto fixedMatchesReferenceSpec)

/-- 'armillarylaw01.FixedFormatMatchesReference', WHERE WHAT IT READS IS OF BULK AT MOST 1048576: true; the input reads as it did. -/
def fixedFormatMatchesReferenceUptoRow : OpenClaim := { program := "ytjjllfaehipemaa", sum := "e1577f78110fb8535cd7c999859bf6c45a84375718de3d1ca69c4a73b125877e", func := "armillary/armillarylaw01.FixedFormatMatchesReference", spec := "fixedFormatMatchesReference", unfollowed := true, recurses := true, apart := false, narrowed := true }
def FixedFormatMatchesReferenceUptoSaid : Prop := fixedFormatMatchesReferenceUptoRow.holds Try.pinned (OpenSpec.upto fixedFormatMatchesReferenceSpec)

/-- 'armillarylaw01.FixedRounding', WHERE WHAT IT READS IS OF BULK AT MOST 1048576: true; the input reads as it did. -/
def fixedRoundingUptoRow : OpenClaim := { program := "ytjjllfaehipemaa", sum := "e1577f78110fb8535cd7c999859bf6c45a84375718de3d1ca69c4a73b125877e", func := "armillary/armillarylaw01.FixedRounding", spec := "fixedRounding", unfollowed := true, recurses := true, apart := false, narrowed := true }
def FixedRoundingUptoSaid : Prop := fixedRoundingUptoRow.holds Try.pinned (OpenSpec.upto fixedRoundingSpec)

/-- 'armillarylaw01.FixedQuotients', WHERE WHAT IT READS IS OF BULK AT MOST 1048576: true; the input reads as it did. -/
def fixedQuotientsUptoRow : OpenClaim := { program := "ytjjllfaehipemaa", sum := "e1577f78110fb8535cd7c999859bf6c45a84375718de3d1ca69c4a73b125877e", func := "armillary/armillarylaw01.FixedQuotients", spec := "fixedQuotients", unfollowed := true, recurses := true, apart := false, narrowed := true }
def FixedQuotientsUptoSaid : Prop := fixedQuotientsUptoRow.holds Try.pinned (OpenSpec.upto fixedQuotientsSpec)

/-- 'armillarylaw01.FixedRoots', WHERE WHAT IT READS IS OF BULK AT MOST 1048576: true; the input reads as it did. -/
def fixedRootsUptoRow : OpenClaim := { program := "ytjjllfaehipemaa", sum := "e1577f78110fb8535cd7c999859bf6c45a84375718de3d1ca69c4a73b125877e", func := "armillary/armillarylaw01.FixedRoots", spec := "fixedRoots", unfollowed := true, recurses := true, apart := false, narrowed := true }
def FixedRootsUptoSaid : Prop := fixedRootsUptoRow.holds Try.pinned (OpenSpec.upto fixedRootsSpec)

/-- 'armillarylaw01.FixedFormatRoundTrip', WHERE WHAT IT READS IS OF BULK AT MOST 1048576: true; the input reads as it did. -/
def fixedFormatRoundTripUptoRow : OpenClaim := { program := "ytjjllfaehipemaa", sum := "e1577f78110fb8535cd7c999859bf6c45a84375718de3d1ca69c4a73b125877e", func := "armillary/armillarylaw01.FixedFormatRoundTrip", spec := "fixedFormatRoundTrip", unfollowed := true, recurses := true, apart := false, narrowed := true }
def FixedFormatRoundTripUptoSaid : Prop := fixedFormatRoundTripUptoRow.holds Try.pinned (OpenSpec.upto fixedFormatRoundTripSpec)

/-- 'armillarylaw01.FixedMonotonicity', WHERE WHAT IT READS IS OF BULK AT MOST 1048576: true; the input reads as it did. -/
def fixedMonotonicityUptoRow : OpenClaim := { program := "ytjjllfaehipemaa", sum := "e1577f78110fb8535cd7c999859bf6c45a84375718de3d1ca69c4a73b125877e", func := "armillary/armillarylaw01.FixedMonotonicity", spec := "fixedMonotonicity", unfollowed := true, recurses := true, apart := false, narrowed := true }
def FixedMonotonicityUptoSaid : Prop := fixedMonotonicityUptoRow.holds Try.pinned (OpenSpec.upto fixedMonotonicitySpec)

/-- 'armillarylaw01.FixedSymmetry', WHERE WHAT IT READS IS OF BULK AT MOST 1048576: true; the input reads as it did. -/
def fixedSymmetryUptoRow : OpenClaim := { program := "ytjjllfaehipemaa", sum := "e1577f78110fb8535cd7c999859bf6c45a84375718de3d1ca69c4a73b125877e", func := "armillary/armillarylaw01.FixedSymmetry", spec := "fixedSymmetry", unfollowed := true, recurses := true, apart := false, narrowed := true }
def FixedSymmetryUptoSaid : Prop := fixedSymmetryUptoRow.holds Try.pinned (OpenSpec.upto fixedSymmetrySpec)

/-- 'armillarylaw01.FixedDecimals', WHERE WHAT IT READS IS OF BULK AT MOST 1048576: true; the input reads as it did. -/
def fixedDecimalsUptoRow : OpenClaim := { program := "ytjjllfaehipemaa", sum := "e1577f78110fb8535cd7c999859bf6c45a84375718de3d1ca69c4a73b125877e", func := "armillary/armillarylaw01.FixedDecimals", spec := "fixedDecimals", unfollowed := true, recurses := true, apart := false, narrowed := true }
def FixedDecimalsUptoSaid : Prop := fixedDecimalsUptoRow.holds Try.pinned (OpenSpec.upto fixedDecimalsSpec)

end Rows
end Go.Proofs.Ytjjllfaehipemaa
