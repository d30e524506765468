/-
  No cell of these rows narrows 'for every input' (looked for: loops, veiled, ifaces, maps, wideKeys, modest, calm, conditions, laid).
  DERIVED. THE GIVEN ROWS OF THIS SEAT. 7 by the template 'for every input the law returns true; each argument reads behind the call as it read before'; 0 by the template 'total and deterministic' (their statements: YtajddejeglhbhaaTotals.lean).
  GIVEN WITH THE SEED: the statements are not yours to turn. If you find one false, say at which input.
  Laid BY PROGRAM, IN A SANDBOX (cutbox-rows.mjs): the forced cells as the released guide's own fill.sh prints them over the translation b9df65e60a04868b… (all of the seat's roots in one cut). By AI agents, Wed Nov 11 2026. No macro, syntax, notation, axiom, sorry.
-/
import Derived.Test.YtajddejeglhbhaaChecked
import GoSem.Claim
import GoSem.ClaimJoined
import GoSem.ClaimMapViews
import Derived.JoinedTies
import Derived.KernelRfl
namespace Go.Proofs.Ytajddejeglhbhaa
/- THE CELL 'sum', in the pinned program and in every row, IS THE sha256 OF THE DUMP (.gsa) THAT YtajddejeglhbhaaProg.lean LOADS. Nothing in Lean hashes anything: it is a label: what it is worth is what the hold of that sum in a sandbox is worth. -/
noncomputable def Try.pinned : Pinned := { name := "ytajddejeglhbhaa", sum := "b9df65e60a04868b12ab1ed2eb1eb79fa10636674011c0bf7e9b1932b3632d30", checked := Try.checked }
namespace Rows
def none {H : Type} : Left H := { results := [], args := [] }

/-- 'armillarylaw08.TapeSemantics': WHATEVER THE INPUT: true; the input reads as it did. -/
def tapeSemanticsSpec : ChangeSpec := { name := "tapeSemantics", fn := fun _ => fun
  | [d] => { results := [.lit (.bool true)], args := [d] }
  | _ => none }
def tapeSemanticsRow : OpenClaim := { program := "ytajddejeglhbhaa", sum := "b9df65e60a04868b12ab1ed2eb1eb79fa10636674011c0bf7e9b1932b3632d30", func := "armillary/armillarylaw08.TapeSemantics", spec := "tapeSemantics", unfollowed := true, recurses := true, plainKeys := false, apart := false }
def TapeSemanticsSaid : Prop := tapeSemanticsRow.holds Try.pinned (OpenSpec.ofChange tapeSemanticsSpec)

/-- ITS FALSE NEIGHBOUR: 'it returns false'. Refute it at one input. -/
def tapeSemanticsWrong : ChangeSpec := { name := "tapeSemantics", fn := fun _ => fun
  | [d] => { results := [.lit (.bool false)], args := [d] }
  | _ => none }
def TapeSemanticsWrongFalsely : Prop := tapeSemanticsRow.holds Try.pinned (OpenSpec.ofChange tapeSemanticsWrong)

/-- 'armillarylaw08.TapeIsotonic': WHATEVER THE INPUT: true; the input reads as it did. -/
def tapeIsotonicSpec : ChangeSpec := { name := "tapeIsotonic", fn := fun _ => fun
  | [d1, d2, d3] => { results := [.lit (.bool true)], args := [d1, d2, d3] }
  | _ => none }
def tapeIsotonicRow : OpenClaim := { program := "ytajddejeglhbhaa", sum := "b9df65e60a04868b12ab1ed2eb1eb79fa10636674011c0bf7e9b1932b3632d30", func := "armillary/armillarylaw08.TapeIsotonic", spec := "tapeIsotonic", unfollowed := true, recurses := true, plainKeys := false, apart := false }
def TapeIsotonicSaid : Prop := tapeIsotonicRow.holds Try.pinned (OpenSpec.ofChange tapeIsotonicSpec)

/-- ITS FALSE NEIGHBOUR: 'it returns false'. Refute it at one input. -/
def tapeIsotonicWrong : ChangeSpec := { name := "tapeIsotonic", fn := fun _ => fun
  | [d1, d2, d3] => { results := [.lit (.bool false)], args := [d1, d2, d3] }
  | _ => none }
def TapeIsotonicWrongFalsely : Prop := tapeIsotonicRow.holds Try.pinned (OpenSpec.ofChange tapeIsotonicWrong)

/-- 'armillarylaw08.TapeRoundTrip': WHATEVER THE INPUT: true; the input reads as it did. -/
def tapeRoundTripSpec : ChangeSpec := { name := "tapeRoundTrip", fn := fun _ => fun
  | [d] => { results := [.lit (.bool true)], args := [d] }
  | _ => none }
def tapeRoundTripRow : OpenClaim := { program := "ytajddejeglhbhaa", sum := "b9df65e60a04868b12ab1ed2eb1eb79fa10636674011c0bf7e9b1932b3632d30", func := "armillary/armillarylaw08.TapeRoundTrip", spec := "tapeRoundTrip", unfollowed := true, recurses := true, plainKeys := false, apart := false }
def TapeRoundTripSaid : Prop := tapeRoundTripRow.holds Try.pinned (OpenSpec.ofChange tapeRoundTripSpec)

/-- ITS FALSE NEIGHBOUR: 'it returns false'. Refute it at one input. -/
def tapeRoundTripWrong : ChangeSpec := { name := "tapeRoundTrip", fn := fun _ => fun
  | [d] => { results := [.lit (.bool false)], args := [d] }
  | _ => none }
def TapeRoundTripWrongFalsely : Prop := tapeRoundTripRow.holds Try.pinned (OpenSpec.ofChange tapeRoundTripWrong)

/-- 'armillarylaw08.TapeNormalForm': WHATEVER THE INPUT: true; the input reads as it did. -/
def tapeNormalFormSpec : ChangeSpec := { name := "tapeNormalForm", fn := fun _ => fun
  | [d] => { results := [.lit (.bool true)], args := [d] }
  | _ => none }
def tapeNormalFormRow : OpenClaim := { program := "ytajddejeglhbhaa", sum := "b9df65e60a04868b12ab1ed2eb1eb79fa10636674011c0bf7e9b1932b3632d30", func := "armillary/armillarylaw08.TapeNormalForm", spec := "tapeNormalForm", unfollowed := true, recurses := true, plainKeys := false, apart := false }
def TapeNormalFormSaid : Prop := tapeNormalFormRow.holds Try.pinned (OpenSpec.ofChange tapeNormalFormSpec)

/-- ITS FALSE NEIGHBOUR: 'it returns false'. Refute it at one input. -/
def tapeNormalFormWrong : ChangeSpec := { name := "tapeNormalForm", fn := fun _ => fun
  | [d] => { results := [.lit (.bool false)], args := [d] }
  | _ => none }
def TapeNormalFormWrongFalsely : Prop := tapeNormalFormRow.holds Try.pinned (OpenSpec.ofChange tapeNormalFormWrong)

/-- 'armillarylaw08.TapeCompiledNormalForm': WHATEVER THE INPUT: true; the input reads as it did. -/
def tapeCompiledNormalFormSpec : ChangeSpec := { name := "tapeCompiledNormalForm", fn := fun _ => fun
  | [d] => { results := [.lit (.bool true)], args := [d] }
  | _ => none }
def tapeCompiledNormalFormRow : OpenClaim := { program := "ytajddejeglhbhaa", sum := "b9df65e60a04868b12ab1ed2eb1eb79fa10636674011c0bf7e9b1932b3632d30", func := "armillary/armillarylaw08.TapeCompiledNormalForm", spec := "tapeCompiledNormalForm", unfollowed := true, recurses := true, plainKeys := false, apart := false }
def TapeCompiledNormalFormSaid : Prop := tapeCompiledNormalFormRow.holds Try.pinned (OpenSpec.ofChange tapeCompiledNormalFormSpec)

/-- ITS FALSE NEIGHBOUR: 'it returns false'. Refute it at one input. -/
def tapeCompiledNormalFormWrong : ChangeSpec := { name := "tapeCompiledNormalForm", fn := fun _ => fun
  | [d] => { results := [.lit (.bool false)], args := [d] }
  | _ => none }
def TapeCompiledNormalFormWrongFalsely : Prop := tapeCompiledNormalFormRow.holds Try.pinned (OpenSpec.ofChange tapeCompiledNormalFormWrong)

/-- 'armillarylaw08.TapeSharing': WHATEVER THE INPUT: true; the input reads as it did. -/
def tapeSharingSpec : ChangeSpec := { name := "tapeSharing", fn := fun _ => fun
  | [d] => { results := [.lit (.bool true)], args := [d] }
  | _ => none }
def tapeSharingRow : OpenClaim := { program := "ytajddejeglhbhaa", sum := "b9df65e60a04868b12ab1ed2eb1eb79fa10636674011c0bf7e9b1932b3632d30", func := "armillary/armillarylaw08.TapeSharing", spec := "tapeSharing", unfollowed := true, recurses := true, plainKeys := false, apart := false }
def TapeSharingSaid : Prop := tapeSharingRow.holds Try.pinned (OpenSpec.ofChange tapeSharingSpec)

/-- ITS FALSE NEIGHBOUR: 'it returns false'. Refute it at one input. -/
def tapeSharingWrong : ChangeSpec := { name := "tapeSharing", fn := fun _ => fun
  | [d] => { results := [.lit (.bool false)], args := [d] }
  | _ => none }
def TapeSharingWrongFalsely : Prop := tapeSharingRow.holds Try.pinned (OpenSpec.ofChange tapeSharingWrong)

/-- 'armillarylaw08.TapeDeadCode': WHATEVER THE INPUT: true; the input reads as it did. -/
def tapeDeadCodeSpec : ChangeSpec := { name := "tapeDeadCode", fn := fun _ => fun
  | [d1, d2] => { results := [.lit (.bool true)], args := [d1, d2] }
  | _ => none }
def tapeDeadCodeRow : OpenClaim := { program := "ytajddejeglhbhaa", sum := "b9df65e60a04868b12ab1ed2eb1eb79fa10636674011c0bf7e9b1932b3632d30", func := "armillary/armillarylaw08.TapeDeadCode", spec := "tapeDeadCode", unfollowed := true, recurses := true, plainKeys := false, apart := false }
def TapeDeadCodeSaid : Prop := tapeDeadCodeRow.holds Try.pinned (OpenSpec.ofChange tapeDeadCodeSpec)

/-- ITS FALSE NEIGHBOUR: 'it returns false'. Refute it at one input. -/
def tapeDeadCodeWrong : ChangeSpec := { name := "tapeDeadCode", fn := fun _ => fun
  | [d1, d2] => { results := [.lit (.bool false)], args := [d1, d2] }
  | _ => none }
def TapeDeadCodeWrongFalsely : Prop := tapeDeadCodeRow.holds Try.pinned (OpenSpec.ofChange tapeDeadCodeWrong)

/- THE SECOND FORM. 'bulk': how many values and letters a reading holds, each counted each time it is reached (what is shared counts as often as it is met; a slice's spare places count too). A statement '..UptoSaid' is the law's where the arguments, and the package variables that the reading takes, are together of bulk at most 1048576: NARROWER than '..Said'. Prove '..Said' where nothing that the law and all that it calls make is longer than what came in: it says more and counts as full. Else prove '..UptoSaid'. A law counts once. -/
mutual
def uptoBulk {H : Type} : DataW H → Nat
  | .lit (.string bytes) => bytes.length + 1
  | .lit _ => 1
  | .nil => 1
  | .ptr d => uptoBulk d + 1
  | .slice elems spare => uptoBulkAll elems + uptoBulkAll spare + 1
  | .agg parts => uptoBulkAll parts + 1
  | .iface _ d => uptoBulk d + 1
  | .map entries => uptoBulkEntries entries + 1
  | .held _ => 1
def uptoBulkAll {H : Type} : List (DataW H) → Nat
  | [] => 0
  | d :: r => uptoBulk d + uptoBulkAll r
def uptoBulkEntries {H : Type} : List (Lit × DataW H) → Nat
  | [] => 0
  | x :: r => uptoBulkEntry x + uptoBulkEntries r
def uptoBulkEntry {H : Type} : Lit × DataW H → Nat
  | (.string bytes, d) => bytes.length + uptoBulk d + 1
  | (_, d) => uptoBulk d + 1
 end
def uptoSmall : (H : Type) → List (DataW H) → Bool := fun _ ds => decide (uptoBulkAll ds ≤ 1048576)
def OpenSpec.upto (s : _root_.Go.ChangeSpec) : _root_.Go.OpenSpec := { _root_.Go.OpenSpec.ofChange s with cond := some uptoSmall }

/-- 'armillarylaw08.TapeSemantics', WHERE WHAT IT READS IS OF BULK AT MOST 1048576: true; the input reads as it did. -/
def tapeSemanticsUptoRow : OpenClaim := { program := "ytajddejeglhbhaa", sum := "b9df65e60a04868b12ab1ed2eb1eb79fa10636674011c0bf7e9b1932b3632d30", func := "armillary/armillarylaw08.TapeSemantics", spec := "tapeSemantics", unfollowed := true, recurses := true, plainKeys := false, apart := false, narrowed := true }
def TapeSemanticsUptoSaid : Prop := tapeSemanticsUptoRow.holds Try.pinned (OpenSpec.upto tapeSemanticsSpec)

/-- 'armillarylaw08.TapeIsotonic', WHERE WHAT IT READS IS OF BULK AT MOST 1048576: true; the input reads as it did. -/
def tapeIsotonicUptoRow : OpenClaim := { program := "ytajddejeglhbhaa", sum := "b9df65e60a04868b12ab1ed2eb1eb79fa10636674011c0bf7e9b1932b3632d30", func := "armillary/armillarylaw08.TapeIsotonic", spec := "tapeIsotonic", unfollowed := true, recurses := true, plainKeys := false, apart := false, narrowed := true }
def TapeIsotonicUptoSaid : Prop := tapeIsotonicUptoRow.holds Try.pinned (OpenSpec.upto tapeIsotonicSpec)

/-- 'armillarylaw08.TapeRoundTrip', WHERE WHAT IT READS IS OF BULK AT MOST 1048576: true; the input reads as it did. -/
def tapeRoundTripUptoRow : OpenClaim := { program := "ytajddejeglhbhaa", sum := "b9df65e60a04868b12ab1ed2eb1eb79fa10636674011c0bf7e9b1932b3632d30", func := "armillary/armillarylaw08.TapeRoundTrip", spec := "tapeRoundTrip", unfollowed := true, recurses := true, plainKeys := false, apart := false, narrowed := true }
def TapeRoundTripUptoSaid : Prop := tapeRoundTripUptoRow.holds Try.pinned (OpenSpec.upto tapeRoundTripSpec)

/-- 'armillarylaw08.TapeNormalForm', WHERE WHAT IT READS IS OF BULK AT MOST 1048576: true; the input reads as it did. -/
def tapeNormalFormUptoRow : OpenClaim := { program := "ytajddejeglhbhaa", sum := "b9df65e60a04868b12ab1ed2eb1eb79fa10636674011c0bf7e9b1932b3632d30", func := "armillary/armillarylaw08.TapeNormalForm", spec := "tapeNormalForm", unfollowed := true, recurses := true, plainKeys := false, apart := false, narrowed := true }
def TapeNormalFormUptoSaid : Prop := tapeNormalFormUptoRow.holds Try.pinned (OpenSpec.upto tapeNormalFormSpec)

/-- 'armillarylaw08.TapeCompiledNormalForm', WHERE WHAT IT READS IS OF BULK AT MOST 1048576: true; the input reads as it did. -/
def tapeCompiledNormalFormUptoRow : OpenClaim := { program := "ytajddejeglhbhaa", sum := "b9df65e60a04868b12ab1ed2eb1eb79fa10636674011c0bf7e9b1932b3632d30", func := "armillary/armillarylaw08.TapeCompiledNormalForm", spec := "tapeCompiledNormalForm", unfollowed := true, recurses := true, plainKeys := false, apart := false, narrowed := true }
def TapeCompiledNormalFormUptoSaid : Prop := tapeCompiledNormalFormUptoRow.holds Try.pinned (OpenSpec.upto tapeCompiledNormalFormSpec)

/-- 'armillarylaw08.TapeSharing', WHERE WHAT IT READS IS OF BULK AT MOST 1048576: true; the input reads as it did. -/
def tapeSharingUptoRow : OpenClaim := { program := "ytajddejeglhbhaa", sum := "b9df65e60a04868b12ab1ed2eb1eb79fa10636674011c0bf7e9b1932b3632d30", func := "armillary/armillarylaw08.TapeSharing", spec := "tapeSharing", unfollowed := true, recurses := true, plainKeys := false, apart := false, narrowed := true }
def TapeSharingUptoSaid : Prop := tapeSharingUptoRow.holds Try.pinned (OpenSpec.upto tapeSharingSpec)

/-- 'armillarylaw08.TapeDeadCode', WHERE WHAT IT READS IS OF BULK AT MOST 1048576: true; the input reads as it did. -/
def tapeDeadCodeUptoRow : OpenClaim := { program := "ytajddejeglhbhaa", sum := "b9df65e60a04868b12ab1ed2eb1eb79fa10636674011c0bf7e9b1932b3632d30", func := "armillary/armillarylaw08.TapeDeadCode", spec := "tapeDeadCode", unfollowed := true, recurses := true, plainKeys := false, apart := false, narrowed := true }
def TapeDeadCodeUptoSaid : Prop := tapeDeadCodeUptoRow.holds Try.pinned (OpenSpec.upto tapeDeadCodeSpec)

end Rows
end Go.Proofs.Ytajddejeglhbhaa
