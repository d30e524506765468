/-
  No cell of these rows narrows 'for every input' (looked for: loops, veiled, ifaces, maps, wideKeys, modest, calm, conditions, laid).
  DERIVED. THE GIVEN ROWS OF THIS SEAT. 7 by the template 'for every input the law returns true; each argument reads behind the call as it read before'; 0 by the template 'total and deterministic' (their statements: YtcamjoddaeefdaaTotals.lean).
  GIVEN WITH THE SEED: the statements are not yours to turn. If you find one false, say at which input.
  Laid BY PROGRAM, IN A SANDBOX (cutbox-rows.mjs): the forced cells as the released guide's own fill.sh prints them over the translation 916fe13635ca013b… (all of the seat's roots in one cut). By AI agents, Wed Nov 11 2026. No macro, syntax, notation, axiom, sorry.
-/
import Derived.Test.YtcamjoddaeefdaaChecked
import GoSem.Claim
import GoSem.ClaimJoined
import GoSem.ClaimMapViews
import Derived.JoinedTies
import Derived.KernelRfl
namespace Go.Proofs.Ytcamjoddaeefdaa
/- THE CELL 'sum', in the pinned program and in every row, IS THE sha256 OF THE DUMP (.gsa) THAT YtcamjoddaeefdaaProg.lean LOADS. Nothing in Lean hashes anything: it is a label: what it is worth is what the hold of that sum in a sandbox is worth. -/
noncomputable def Try.pinned : Pinned := { name := "ytcamjoddaeefdaa", sum := "916fe13635ca013bcf01db59819ea6f88783e325af5cc9050e93559b174cae9e", checked := Try.checked }
namespace Rows
def none {H : Type} : Left H := { results := [], args := [] }

/-- 'armillarylaw05.PolySumExact': WHATEVER THE INPUT: true; the input reads as it did. -/
def polySumExactSpec : ChangeSpec := { name := "polySumExact", fn := fun _ => fun
  | [d1, d2] => { results := [.lit (.bool true)], args := [d1, d2] }
  | _ => none }
def polySumExactRow : OpenClaim := { program := "ytcamjoddaeefdaa", sum := "916fe13635ca013bcf01db59819ea6f88783e325af5cc9050e93559b174cae9e", func := "armillary/armillarylaw05.PolySumExact", spec := "polySumExact", unfollowed := true, recurses := true, plainKeys := false, apart := false }
def PolySumExactSaid : Prop := polySumExactRow.holds Try.pinned (OpenSpec.ofChange polySumExactSpec)

/-- ITS FALSE NEIGHBOUR: 'it returns false'. Refute it at one input. -/
def polySumExactWrong : ChangeSpec := { name := "polySumExact", fn := fun _ => fun
  | [d1, d2] => { results := [.lit (.bool false)], args := [d1, d2] }
  | _ => none }
def PolySumExactWrongFalsely : Prop := polySumExactRow.holds Try.pinned (OpenSpec.ofChange polySumExactWrong)

/-- 'armillarylaw05.PolyProductEnclosure': WHATEVER THE INPUT: true; the input reads as it did. -/
def polyProductEnclosureSpec : ChangeSpec := { name := "polyProductEnclosure", fn := fun _ => fun
  | [d1, d2] => { results := [.lit (.bool true)], args := [d1, d2] }
  | _ => none }
def polyProductEnclosureRow : OpenClaim := { program := "ytcamjoddaeefdaa", sum := "916fe13635ca013bcf01db59819ea6f88783e325af5cc9050e93559b174cae9e", func := "armillary/armillarylaw05.PolyProductEnclosure", spec := "polyProductEnclosure", unfollowed := true, recurses := true, plainKeys := false, apart := false }
def PolyProductEnclosureSaid : Prop := polyProductEnclosureRow.holds Try.pinned (OpenSpec.ofChange polyProductEnclosureSpec)

/-- ITS FALSE NEIGHBOUR: 'it returns false'. Refute it at one input. -/
def polyProductEnclosureWrong : ChangeSpec := { name := "polyProductEnclosure", fn := fun _ => fun
  | [d1, d2] => { results := [.lit (.bool false)], args := [d1, d2] }
  | _ => none }
def PolyProductEnclosureWrongFalsely : Prop := polyProductEnclosureRow.holds Try.pinned (OpenSpec.ofChange polyProductEnclosureWrong)

/-- 'armillarylaw05.PolyScaleTruncateEnclosure': WHATEVER THE INPUT: true; the input reads as it did. -/
def polyScaleTruncateEnclosureSpec : ChangeSpec := { name := "polyScaleTruncateEnclosure", fn := fun _ => fun
  | [d1, d2] => { results := [.lit (.bool true)], args := [d1, d2] }
  | _ => none }
def polyScaleTruncateEnclosureRow : OpenClaim := { program := "ytcamjoddaeefdaa", sum := "916fe13635ca013bcf01db59819ea6f88783e325af5cc9050e93559b174cae9e", func := "armillary/armillarylaw05.PolyScaleTruncateEnclosure", spec := "polyScaleTruncateEnclosure", unfollowed := true, recurses := true, plainKeys := false, apart := false }
def PolyScaleTruncateEnclosureSaid : Prop := polyScaleTruncateEnclosureRow.holds Try.pinned (OpenSpec.ofChange polyScaleTruncateEnclosureSpec)

/-- ITS FALSE NEIGHBOUR: 'it returns false'. Refute it at one input. -/
def polyScaleTruncateEnclosureWrong : ChangeSpec := { name := "polyScaleTruncateEnclosure", fn := fun _ => fun
  | [d1, d2] => { results := [.lit (.bool false)], args := [d1, d2] }
  | _ => none }
def PolyScaleTruncateEnclosureWrongFalsely : Prop := polyScaleTruncateEnclosureRow.holds Try.pinned (OpenSpec.ofChange polyScaleTruncateEnclosureWrong)

/-- 'armillarylaw05.PolyRangeEnclosure': WHATEVER THE INPUT: true; the input reads as it did. -/
def polyRangeEnclosureSpec : ChangeSpec := { name := "polyRangeEnclosure", fn := fun _ => fun
  | [d1, d2, d3] => { results := [.lit (.bool true)], args := [d1, d2, d3] }
  | _ => none }
def polyRangeEnclosureRow : OpenClaim := { program := "ytcamjoddaeefdaa", sum := "916fe13635ca013bcf01db59819ea6f88783e325af5cc9050e93559b174cae9e", func := "armillary/armillarylaw05.PolyRangeEnclosure", spec := "polyRangeEnclosure", unfollowed := true, recurses := true, plainKeys := false, apart := false }
def PolyRangeEnclosureSaid : Prop := polyRangeEnclosureRow.holds Try.pinned (OpenSpec.ofChange polyRangeEnclosureSpec)

/-- ITS FALSE NEIGHBOUR: 'it returns false'. Refute it at one input. -/
def polyRangeEnclosureWrong : ChangeSpec := { name := "polyRangeEnclosure", fn := fun _ => fun
  | [d1, d2, d3] => { results := [.lit (.bool false)], args := [d1, d2, d3] }
  | _ => none }
def PolyRangeEnclosureWrongFalsely : Prop := polyRangeEnclosureRow.holds Try.pinned (OpenSpec.ofChange polyRangeEnclosureWrong)

/-- 'armillarylaw05.PolyEvalIsotonic': WHATEVER THE INPUT: true; the input reads as it did. -/
def polyEvalIsotonicSpec : ChangeSpec := { name := "polyEvalIsotonic", fn := fun _ => fun
  | [d1, d2, d3] => { results := [.lit (.bool true)], args := [d1, d2, d3] }
  | _ => none }
def polyEvalIsotonicRow : OpenClaim := { program := "ytcamjoddaeefdaa", sum := "916fe13635ca013bcf01db59819ea6f88783e325af5cc9050e93559b174cae9e", func := "armillary/armillarylaw05.PolyEvalIsotonic", spec := "polyEvalIsotonic", unfollowed := true, recurses := true, plainKeys := false, apart := false }
def PolyEvalIsotonicSaid : Prop := polyEvalIsotonicRow.holds Try.pinned (OpenSpec.ofChange polyEvalIsotonicSpec)

/-- ITS FALSE NEIGHBOUR: 'it returns false'. Refute it at one input. -/
def polyEvalIsotonicWrong : ChangeSpec := { name := "polyEvalIsotonic", fn := fun _ => fun
  | [d1, d2, d3] => { results := [.lit (.bool false)], args := [d1, d2, d3] }
  | _ => none }
def PolyEvalIsotonicWrongFalsely : Prop := polyEvalIsotonicRow.holds Try.pinned (OpenSpec.ofChange polyEvalIsotonicWrong)

/-- 'armillarylaw05.PolyAlgebra': WHATEVER THE INPUT: true; the input reads as it did. -/
def polyAlgebraSpec : ChangeSpec := { name := "polyAlgebra", fn := fun _ => fun
  | [d1, d2] => { results := [.lit (.bool true)], args := [d1, d2] }
  | _ => none }
def polyAlgebraRow : OpenClaim := { program := "ytcamjoddaeefdaa", sum := "916fe13635ca013bcf01db59819ea6f88783e325af5cc9050e93559b174cae9e", func := "armillary/armillarylaw05.PolyAlgebra", spec := "polyAlgebra", unfollowed := true, recurses := true, plainKeys := false, apart := false }
def PolyAlgebraSaid : Prop := polyAlgebraRow.holds Try.pinned (OpenSpec.ofChange polyAlgebraSpec)

/-- ITS FALSE NEIGHBOUR: 'it returns false'. Refute it at one input. -/
def polyAlgebraWrong : ChangeSpec := { name := "polyAlgebra", fn := fun _ => fun
  | [d1, d2] => { results := [.lit (.bool false)], args := [d1, d2] }
  | _ => none }
def PolyAlgebraWrongFalsely : Prop := polyAlgebraRow.holds Try.pinned (OpenSpec.ofChange polyAlgebraWrong)

/-- 'armillarylaw05.PolyTruncatedProduct': WHATEVER THE INPUT: true; the input reads as it did. -/
def polyTruncatedProductSpec : ChangeSpec := { name := "polyTruncatedProduct", fn := fun _ => fun
  | [d1, d2, d3] => { results := [.lit (.bool true)], args := [d1, d2, d3] }
  | _ => none }
def polyTruncatedProductRow : OpenClaim := { program := "ytcamjoddaeefdaa", sum := "916fe13635ca013bcf01db59819ea6f88783e325af5cc9050e93559b174cae9e", func := "armillary/armillarylaw05.PolyTruncatedProduct", spec := "polyTruncatedProduct", unfollowed := true, recurses := true, plainKeys := false, apart := false }
def PolyTruncatedProductSaid : Prop := polyTruncatedProductRow.holds Try.pinned (OpenSpec.ofChange polyTruncatedProductSpec)

/-- ITS FALSE NEIGHBOUR: 'it returns false'. Refute it at one input. -/
def polyTruncatedProductWrong : ChangeSpec := { name := "polyTruncatedProduct", fn := fun _ => fun
  | [d1, d2, d3] => { results := [.lit (.bool false)], args := [d1, d2, d3] }
  | _ => none }
def PolyTruncatedProductWrongFalsely : Prop := polyTruncatedProductRow.holds Try.pinned (OpenSpec.ofChange polyTruncatedProductWrong)

/- THE SECOND FORM. 'bulk': how many values and letters a reading holds, each counted each time it is reached (what is shared counts as often as it is met; a slice's spare places count too). A statement '..UptoSaid' is the law's where the arguments, and the package variables that the reading takes, are together of bulk at most 1048576: NARROWER than '..Said'. Prove '..Said' where nothing that the law and all that it calls make is longer than what came in: it says more and counts as full. Else prove '..UptoSaid'. A law counts once. -/
mutual
def uptoBulk {H : Type} : DataW H → Nat
  | .lit (.string bytes) => bytes.length + 1
  | .lit _ => 1
  | .nil => 1
  | .ptr d => uptoBulk d + 1
  | .slice elems spare => uptoBulkAll elems + uptoBulkAll spare + 1
  | .agg parts => uptoBulkAll parts + 1
  | .iface _ d => uptoBulk d + 1
  | .map entries => uptoBulkEntries entries + 1
  | .held _ => 1
def uptoBulkAll {H : Type} : List (DataW H) → Nat
  | [] => 0
  | d :: r => uptoBulk d + uptoBulkAll r
def uptoBulkEntries {H : Type} : List (Lit × DataW H) → Nat
  | [] => 0
  | x :: r => uptoBulkEntry x + uptoBulkEntries r
def uptoBulkEntry {H : Type} : Lit × DataW H → Nat
  | (.string bytes, d) => bytes.length + uptoBulk d + 1
  | (_, d) => uptoBulk d + 1
 end
def uptoSmall : (H : Type) → List (DataW H) → Bool := fun _ ds => decide (uptoBulkAll ds ≤ 1048576)
def OpenSpec.upto (s : _root_.Go.ChangeSpec) : _root_.Go.OpenSpec := { _root_.Go.OpenSpec.ofChange s with cond := some uptoSmall }

/-- 'armillarylaw05.PolySumExact', WHERE WHAT IT READS IS OF BULK AT MOST 1048576: true; the input reads as it did. -/
def polySumExactUptoRow : OpenClaim := { program := "ytcamjoddaeefdaa", sum := "916fe13635ca013bcf01db59819ea6f88783e325af5cc9050e93559b174cae9e", func := "armillary/armillarylaw05.PolySumExact", spec := "polySumExact", unfollowed := true, recurses := true, plainKeys := false, apart := false, narrowed := true }
def PolySumExactUptoSaid : Prop := polySumExactUptoRow.holds Try.pinned (OpenSpec.upto polySumExactSpec)

/-- 'armillarylaw05.PolyProductEnclosure', WHERE WHAT IT READS IS OF BULK AT MOST 1048576: true; the input reads as it did. -/
def polyProductEnclosureUptoRow : OpenClaim := { program := "ytcamjoddaeefdaa", sum := "916fe13635ca013bcf01db59819ea6f88783e325af5cc9050e93559b174cae9e", func := "armillary/armillarylaw05.PolyProductEnclosure", spec := "polyProductEnclosure", unfollowed := true, recurses := true, plainKeys := false, apart := false, narrowed := true }
def PolyProductEnclosureUptoSaid : Prop := polyProductEnclosureUptoRow.holds Try.pinned (OpenSpec.upto polyProductEnclosureSpec)

/-- 'armillarylaw05.PolyScaleTruncateEnclosure', WHERE WHAT IT READS IS OF BULK AT MOST 1048576: true; the input reads as it did. -/
def polyScaleTruncateEnclosureUptoRow : OpenClaim := { program := "ytcamjoddaeefdaa", sum := "916fe13635ca013bcf01db59819ea6f88783e325af5cc9050e93559b174cae9e", func := "armillary/armillarylaw05.PolyScaleTruncateEnclosure", spec := "polyScaleTruncateEnclosure", unfollowed := true, recurses := true, plainKeys := false, apart := false, narrowed := true }
def PolyScaleTruncateEnclosureUptoSaid : Prop := polyScaleTruncateEnclosureUptoRow.holds Try.pinned (OpenSpec.upto polyScaleTruncateEnclosureSpec)

/-- 'armillarylaw05.PolyRangeEnclosure', WHERE WHAT IT READS IS OF BULK AT MOST 1048576: true; the input reads as it did. -/
def polyRangeEnclosureUptoRow : OpenClaim := { program := "ytcamjoddaeefdaa", sum := "916fe13635ca013bcf01db59819ea6f88783e325af5cc9050e93559b174cae9e", func := "armillary/armillarylaw05.PolyRangeEnclosure", spec := "polyRangeEnclosure", unfollowed := true, recurses := true, plainKeys := false, apart := false, narrowed := true }
def PolyRangeEnclosureUptoSaid : Prop := polyRangeEnclosureUptoRow.holds Try.pinned (OpenSpec.upto polyRangeEnclosureSpec)

/-- 'armillarylaw05.PolyEvalIsotonic', WHERE WHAT IT READS IS OF BULK AT MOST 1048576: true; the input reads as it did. -/
def polyEvalIsotonicUptoRow : OpenClaim := { program := "ytcamjoddaeefdaa", sum := "916fe13635ca013bcf01db59819ea6f88783e325af5cc9050e93559b174cae9e", func := "armillary/armillarylaw05.PolyEvalIsotonic", spec := "polyEvalIsotonic", unfollowed := true, recurses := true, plainKeys := false, apart := false, narrowed := true }
def PolyEvalIsotonicUptoSaid : Prop := polyEvalIsotonicUptoRow.holds Try.pinned (OpenSpec.upto polyEvalIsotonicSpec)

/-- 'armillarylaw05.PolyAlgebra', WHERE WHAT IT READS IS OF BULK AT MOST 1048576: true; the input reads as it did. -/
def polyAlgebraUptoRow : OpenClaim := { program := "ytcamjoddaeefdaa", sum := "916fe13635ca013bcf01db59819ea6f88783e325af5cc9050e93559b174cae9e", func := "armillary/armillarylaw05.PolyAlgebra", spec := "polyAlgebra", unfollowed := true, recurses := true, plainKeys := false, apart := false, narrowed := true }
def PolyAlgebraUptoSaid : Prop := polyAlgebraUptoRow.holds Try.pinned (OpenSpec.upto polyAlgebraSpec)

/-- 'armillarylaw05.PolyTruncatedProduct', WHERE WHAT IT READS IS OF BULK AT MOST 1048576: true; the input reads as it did. -/
def polyTruncatedProductUptoRow : OpenClaim := { program := "ytcamjoddaeefdaa", sum := "916fe13635ca013bcf01db59819ea6f88783e325af5cc9050e93559b174cae9e", func := "armillary/armillarylaw05.PolyTruncatedProduct", spec := "polyTruncatedProduct", unfollowed := true, recurses := true, plainKeys := false, apart := false, narrowed := true }
def PolyTruncatedProductUptoSaid : Prop := polyTruncatedProductUptoRow.holds Try.pinned (OpenSpec.upto polyTruncatedProductSpec)

end Rows
end Go.Proofs.Ytcamjoddaeefdaa
