/-
  No cell of these rows narrows 'for every input' (looked for: loops, veiled, ifaces, maps, wideKeys, modest, calm, conditions, laid).
  DERIVED. THE GIVEN ROWS OF THIS SEAT. 10 by the template 'for every input the law returns true; each argument reads behind the call as it read before'; 0 by the template 'total and deterministic' (their statements: YtdfdpghdjlgghaaGreatTotals.lean).
  GIVEN WITH THE SEED: the statements are not yours to turn. If you find one false, say at which input.
  Laid BY PROGRAM, IN A SANDBOX (cutbox-rows.mjs): the forced cells as the released guide's own fill.sh prints them over the translation e6bf45bc5809bb7b… (all of the seat's roots in one cut). By AI agents, Wed Nov 11 2026. No macro, syntax, notation, axiom, sorry.
-/
import Derived.Test.YtdfdpghdjlgghaaGreatChecked
import GoSem.Claim
import GoSem.ClaimJoined
import GoSem.ClaimMapViews
import Derived.JoinedTies
import Derived.KernelRfl
namespace Go.Proofs.YtdfdpghdjlgghaaGreat
/- THE CELL 'sum', in the pinned program and in every row, IS THE sha256 OF THE DUMP (.gsa) THAT YtdfdpghdjlgghaaGreatProg.lean LOADS. Nothing in Lean hashes anything: it is a label: what it is worth is what the hold of that sum in a sandbox is worth. -/
noncomputable def Tryz.pinned : Pinned := { name := "ytdfdpghdjlgghaagreat", sum := "e6bf45bc5809bb7beda0aeb9e59dbea30e7012dd6f6c75b126aae9c45a4a9cf7", checked := Tryz.checked }
namespace Rows
def none {H : Type} : Left H := { results := [], args := [] }

/-- 'armillarylaw13.ControlMonotonicity': WHATEVER THE INPUT: true; the input reads as it did. -/
def controlMonotonicitySpec : ChangeSpec := { name := "controlMonotonicity", fn := fun _ => fun
  | [d1, d2, d3] => { results := [.lit (.bool true)], args := [d1, d2, d3] }
  | _ => none }
def controlMonotonicityRow : OpenClaim := { program := "ytdfdpghdjlgghaagreat", sum := "e6bf45bc5809bb7beda0aeb9e59dbea30e7012dd6f6c75b126aae9c45a4a9cf7", func := "armillary/armillarylaw13.ControlMonotonicity", spec := "controlMonotonicity", unfollowed := true, recurses := true, apart := false }
def ControlMonotonicitySaid : Prop := controlMonotonicityRow.holds Tryz.pinned (OpenSpec.ofChange controlMonotonicitySpec)

/-- ITS FALSE NEIGHBOUR: 'it returns false'. Refute it at one input. -/
def controlMonotonicityWrong : ChangeSpec := { name := "controlMonotonicity", fn := fun _ => fun
  | [d1, d2, d3] => { results := [.lit (.bool false)], args := [d1, d2, d3] }
  | _ => none }
def ControlMonotonicityWrongFalsely : Prop := controlMonotonicityRow.holds Tryz.pinned (OpenSpec.ofChange controlMonotonicityWrong)

/-- 'armillarylaw13.ControlRepeat': WHATEVER THE INPUT: true; the input reads as it did. -/
def controlRepeatSpec : ChangeSpec := { name := "controlRepeat", fn := fun _ => fun
  | [d] => { results := [.lit (.bool true)], args := [d] }
  | _ => none }
def controlRepeatRow : OpenClaim := { program := "ytdfdpghdjlgghaagreat", sum := "e6bf45bc5809bb7beda0aeb9e59dbea30e7012dd6f6c75b126aae9c45a4a9cf7", func := "armillary/armillarylaw13.ControlRepeat", spec := "controlRepeat", unfollowed := true, recurses := true, apart := false }
def ControlRepeatSaid : Prop := controlRepeatRow.holds Tryz.pinned (OpenSpec.ofChange controlRepeatSpec)

/-- ITS FALSE NEIGHBOUR: 'it returns false'. Refute it at one input. -/
def controlRepeatWrong : ChangeSpec := { name := "controlRepeat", fn := fun _ => fun
  | [d] => { results := [.lit (.bool false)], args := [d] }
  | _ => none }
def ControlRepeatWrongFalsely : Prop := controlRepeatRow.holds Tryz.pinned (OpenSpec.ofChange controlRepeatWrong)

/-- 'armillarylaw14.FlowMatchesReference': WHATEVER THE INPUT: true; the input reads as it did. -/
def flowMatchesReferenceSpec : ChangeSpec := { name := "flowMatchesReference", fn := fun _ => fun
  | [d] => { results := [.lit (.bool true)], args := [d] }
  | _ => none }
def flowMatchesReferenceRow : OpenClaim := { program := "ytdfdpghdjlgghaagreat", sum := "e6bf45bc5809bb7beda0aeb9e59dbea30e7012dd6f6c75b126aae9c45a4a9cf7", func := "armillary/armillarylaw14.FlowMatchesReference", spec := "flowMatchesReference", inPlace := ["internal/reflectlite.TypeOf"], unfollowed := true, recurses := true, apart := false }
def FlowMatchesReferenceSaid : Prop := flowMatchesReferenceRow.holds Tryz.pinned (OpenSpec.ofChange flowMatchesReferenceSpec)

/-- ITS FALSE NEIGHBOUR: 'it returns false'. Refute it at one input. -/
def flowMatchesReferenceWrong : ChangeSpec := { name := "flowMatchesReference", fn := fun _ => fun
  | [d] => { results := [.lit (.bool false)], args := [d] }
  | _ => none }
def FlowMatchesReferenceWrongFalsely : Prop := flowMatchesReferenceRow.holds Tryz.pinned (OpenSpec.ofChange flowMatchesReferenceWrong)

/-- 'armillarylaw14.FlowStructure': WHATEVER THE INPUT: true; the input reads as it did. -/
def flowStructureSpec : ChangeSpec := { name := "flowStructure", fn := fun _ => fun
  | [d] => { results := [.lit (.bool true)], args := [d] }
  | _ => none }
def flowStructureRow : OpenClaim := { program := "ytdfdpghdjlgghaagreat", sum := "e6bf45bc5809bb7beda0aeb9e59dbea30e7012dd6f6c75b126aae9c45a4a9cf7", func := "armillary/armillarylaw14.FlowStructure", spec := "flowStructure", inPlace := ["internal/reflectlite.TypeOf"], unfollowed := true, recurses := true, apart := false }
def FlowStructureSaid : Prop := flowStructureRow.holds Tryz.pinned (OpenSpec.ofChange flowStructureSpec)

/-- ITS FALSE NEIGHBOUR: 'it returns false'. Refute it at one input. -/
def flowStructureWrong : ChangeSpec := { name := "flowStructure", fn := fun _ => fun
  | [d] => { results := [.lit (.bool false)], args := [d] }
  | _ => none }
def FlowStructureWrongFalsely : Prop := flowStructureRow.holds Tryz.pinned (OpenSpec.ofChange flowStructureWrong)

/-- 'armillarylaw14.FlowSteadySolutions': WHATEVER THE INPUT: true; the input reads as it did. -/
def flowSteadySolutionsSpec : ChangeSpec := { name := "flowSteadySolutions", fn := fun _ => fun
  | [d1, d2, d3] => { results := [.lit (.bool true)], args := [d1, d2, d3] }
  | _ => none }
def flowSteadySolutionsRow : OpenClaim := { program := "ytdfdpghdjlgghaagreat", sum := "e6bf45bc5809bb7beda0aeb9e59dbea30e7012dd6f6c75b126aae9c45a4a9cf7", func := "armillary/armillarylaw14.FlowSteadySolutions", spec := "flowSteadySolutions", inPlace := ["internal/reflectlite.TypeOf"], unfollowed := true, recurses := true, apart := false }
def FlowSteadySolutionsSaid : Prop := flowSteadySolutionsRow.holds Tryz.pinned (OpenSpec.ofChange flowSteadySolutionsSpec)

/-- ITS FALSE NEIGHBOUR: 'it returns false'. Refute it at one input. -/
def flowSteadySolutionsWrong : ChangeSpec := { name := "flowSteadySolutions", fn := fun _ => fun
  | [d1, d2, d3] => { results := [.lit (.bool false)], args := [d1, d2, d3] }
  | _ => none }
def FlowSteadySolutionsWrongFalsely : Prop := flowSteadySolutionsRow.holds Tryz.pinned (OpenSpec.ofChange flowSteadySolutionsWrong)

/-- 'armillarylaw14.FlowParabolas': WHATEVER THE INPUT: true; the input reads as it did. -/
def flowParabolasSpec : ChangeSpec := { name := "flowParabolas", fn := fun _ => fun
  | [d1, d2, d3] => { results := [.lit (.bool true)], args := [d1, d2, d3] }
  | _ => none }
def flowParabolasRow : OpenClaim := { program := "ytdfdpghdjlgghaagreat", sum := "e6bf45bc5809bb7beda0aeb9e59dbea30e7012dd6f6c75b126aae9c45a4a9cf7", func := "armillary/armillarylaw14.FlowParabolas", spec := "flowParabolas", inPlace := ["internal/reflectlite.TypeOf"], unfollowed := true, recurses := true, apart := false }
def FlowParabolasSaid : Prop := flowParabolasRow.holds Tryz.pinned (OpenSpec.ofChange flowParabolasSpec)

/-- ITS FALSE NEIGHBOUR: 'it returns false'. Refute it at one input. -/
def flowParabolasWrong : ChangeSpec := { name := "flowParabolas", fn := fun _ => fun
  | [d1, d2, d3] => { results := [.lit (.bool false)], args := [d1, d2, d3] }
  | _ => none }
def FlowParabolasWrongFalsely : Prop := flowParabolasRow.holds Tryz.pinned (OpenSpec.ofChange flowParabolasWrong)

/-- 'armillarylaw14.FlowClock': WHATEVER THE INPUT: true; the input reads as it did. -/
def flowClockSpec : ChangeSpec := { name := "flowClock", fn := fun _ => fun
  | [d1, d2] => { results := [.lit (.bool true)], args := [d1, d2] }
  | _ => none }
def flowClockRow : OpenClaim := { program := "ytdfdpghdjlgghaagreat", sum := "e6bf45bc5809bb7beda0aeb9e59dbea30e7012dd6f6c75b126aae9c45a4a9cf7", func := "armillary/armillarylaw14.FlowClock", spec := "flowClock", inPlace := ["internal/reflectlite.TypeOf"], unfollowed := true, recurses := true, apart := false }
def FlowClockSaid : Prop := flowClockRow.holds Tryz.pinned (OpenSpec.ofChange flowClockSpec)

/-- ITS FALSE NEIGHBOUR: 'it returns false'. Refute it at one input. -/
def flowClockWrong : ChangeSpec := { name := "flowClock", fn := fun _ => fun
  | [d1, d2] => { results := [.lit (.bool false)], args := [d1, d2] }
  | _ => none }
def FlowClockWrongFalsely : Prop := flowClockRow.holds Tryz.pinned (OpenSpec.ofChange flowClockWrong)

/-- 'armillarylaw14.FlowDuring': WHATEVER THE INPUT: true; the input reads as it did. -/
def flowDuringSpec : ChangeSpec := { name := "flowDuring", fn := fun _ => fun
  | [d1, d2] => { results := [.lit (.bool true)], args := [d1, d2] }
  | _ => none }
def flowDuringRow : OpenClaim := { program := "ytdfdpghdjlgghaagreat", sum := "e6bf45bc5809bb7beda0aeb9e59dbea30e7012dd6f6c75b126aae9c45a4a9cf7", func := "armillary/armillarylaw14.FlowDuring", spec := "flowDuring", inPlace := ["internal/reflectlite.TypeOf"], unfollowed := true, recurses := true, apart := false }
def FlowDuringSaid : Prop := flowDuringRow.holds Tryz.pinned (OpenSpec.ofChange flowDuringSpec)

/-- ITS FALSE NEIGHBOUR: 'it returns false'. Refute it at one input. -/
def flowDuringWrong : ChangeSpec := { name := "flowDuring", fn := fun _ => fun
  | [d1, d2] => { results := [.lit (.bool false)], args := [d1, d2] }
  | _ => none }
def FlowDuringWrongFalsely : Prop := flowDuringRow.holds Tryz.pinned (OpenSpec.ofChange flowDuringWrong)

/-- 'armillarylaw14.FlowItems': WHATEVER THE INPUT: true; the input reads as it did. -/
def flowItemsSpec : ChangeSpec := { name := "flowItems", fn := fun _ => fun
  | [d] => { results := [.lit (.bool true)], args := [d] }
  | _ => none }
def flowItemsRow : OpenClaim := { program := "ytdfdpghdjlgghaagreat", sum := "e6bf45bc5809bb7beda0aeb9e59dbea30e7012dd6f6c75b126aae9c45a4a9cf7", func := "armillary/armillarylaw14.FlowItems", spec := "flowItems", inPlace := ["internal/reflectlite.TypeOf"], unfollowed := true, recurses := true, apart := false }
def FlowItemsSaid : Prop := flowItemsRow.holds Tryz.pinned (OpenSpec.ofChange flowItemsSpec)

/-- ITS FALSE NEIGHBOUR: 'it returns false'. Refute it at one input. -/
def flowItemsWrong : ChangeSpec := { name := "flowItems", fn := fun _ => fun
  | [d] => { results := [.lit (.bool false)], args := [d] }
  | _ => none }
def FlowItemsWrongFalsely : Prop := flowItemsRow.holds Tryz.pinned (OpenSpec.ofChange flowItemsWrong)

/-- 'armillarylaw14.FlowErrors': WHATEVER THE INPUT: true; the input reads as it did. -/
def flowErrorsSpec : ChangeSpec := { name := "flowErrors", fn := fun _ => fun
  | [d1, d2, d3] => { results := [.lit (.bool true)], args := [d1, d2, d3] }
  | _ => none }
def flowErrorsRow : OpenClaim := { program := "ytdfdpghdjlgghaagreat", sum := "e6bf45bc5809bb7beda0aeb9e59dbea30e7012dd6f6c75b126aae9c45a4a9cf7", func := "armillary/armillarylaw14.FlowErrors", spec := "flowErrors", inPlace := ["internal/reflectlite.TypeOf"], unfollowed := true, recurses := true, apart := false }
def FlowErrorsSaid : Prop := flowErrorsRow.holds Tryz.pinned (OpenSpec.ofChange flowErrorsSpec)

/-- ITS FALSE NEIGHBOUR: 'it returns false'. Refute it at one input. -/
def flowErrorsWrong : ChangeSpec := { name := "flowErrors", fn := fun _ => fun
  | [d1, d2, d3] => { results := [.lit (.bool false)], args := [d1, d2, d3] }
  | _ => none }
def FlowErrorsWrongFalsely : Prop := flowErrorsRow.holds Tryz.pinned (OpenSpec.ofChange flowErrorsWrong)

/- THE SECOND FORM. 'bulk': how many values and letters a reading holds, each counted each time it is reached (what is shared counts as often as it is met; a slice's spare places count too). A statement '..UptoSaid' is the law's where the arguments, and the package variables that the reading takes, are together of bulk at most 1048576: NARROWER than '..Said'. Prove '..Said' where nothing that the law and all that it calls make is longer than what came in: it says more and counts as full. Else prove '..UptoSaid'. A law counts once. -/
mutual
def uptoBulk {H : Type} : DataW H → Nat
  | .lit (.string bytes) => bytes.length + 1
  | .lit _ => 1
  | .nil => 1
  | .ptr d => uptoBulk d + 1
  | .slice elems spare => uptoBulkAll elems + uptoBulkAll spare + 1
  | .agg parts => uptoBulkAll parts + 1
  | .iface _ d => uptoBulk d + 1
  | .map entries => uptoBulkEntries entries + 1
  | .held _ => 1
def uptoBulkAll {H : Type} : List (DataW H) → Nat
  | [] => 0
  | d :: r => uptoBulk d + uptoBulkAll r
def uptoBulkEntries {H : Type} : List (Lit × DataW H) → Nat
  | [] => 0
  | x :: r => uptoBulkEntry x + uptoBulkEntries r
def uptoBulkEntry {H : Type} : Lit × DataW H → Nat
  | (.string bytes, d) => bytes.length + uptoBulk d + 1
  | (_, d) => uptoBulk d + 1
 end
def uptoSmall : (H : Type) → List (DataW H) → Bool := fun _ ds => decide (uptoBulkAll ds ≤ 1048576)
def OpenSpec.upto (s : _root_.Go.ChangeSpec) : _root_.Go.OpenSpec := { _root_.Go.OpenSpec.ofChange s with cond := some uptoSmall }

/-- 'armillarylaw13.ControlMonotonicity', WHERE WHAT IT READS IS OF BULK AT MOST 1048576: true; the input reads as it did. -/
def controlMonotonicityUptoRow : OpenClaim := { program := "ytdfdpghdjlgghaagreat", sum := "e6bf45bc5809bb7beda0aeb9e59dbea30e7012dd6f6c75b126aae9c45a4a9cf7", func := "armillary/armillarylaw13.ControlMonotonicity", spec := "controlMonotonicity", unfollowed := true, recurses := true, apart := false, narrowed := true }
def ControlMonotonicityUptoSaid : Prop := controlMonotonicityUptoRow.holds Tryz.pinned (OpenSpec.upto controlMonotonicitySpec)

/-- 'armillarylaw13.ControlRepeat', WHERE WHAT IT READS IS OF BULK AT MOST 1048576: true; the input reads as it did. -/
def controlRepeatUptoRow : OpenClaim := { program := "ytdfdpghdjlgghaagreat", sum := "e6bf45bc5809bb7beda0aeb9e59dbea30e7012dd6f6c75b126aae9c45a4a9cf7", func := "armillary/armillarylaw13.ControlRepeat", spec := "controlRepeat", unfollowed := true, recurses := true, apart := false, narrowed := true }
def ControlRepeatUptoSaid : Prop := controlRepeatUptoRow.holds Tryz.pinned (OpenSpec.upto controlRepeatSpec)

/-- 'armillarylaw14.FlowMatchesReference', WHERE WHAT IT READS IS OF BULK AT MOST 1048576: true; the input reads as it did. -/
def flowMatchesReferenceUptoRow : OpenClaim := { program := "ytdfdpghdjlgghaagreat", sum := "e6bf45bc5809bb7beda0aeb9e59dbea30e7012dd6f6c75b126aae9c45a4a9cf7", func := "armillary/armillarylaw14.FlowMatchesReference", spec := "flowMatchesReference", inPlace := ["internal/reflectlite.TypeOf"], unfollowed := true, recurses := true, apart := false, narrowed := true }
def FlowMatchesReferenceUptoSaid : Prop := flowMatchesReferenceUptoRow.holds Tryz.pinned (OpenSpec.upto flowMatchesReferenceSpec)

/-- 'armillarylaw14.FlowStructure', WHERE WHAT IT READS IS OF BULK AT MOST 1048576: true; the input reads as it did. -/
def flowStructureUptoRow : OpenClaim := { program := "ytdfdpghdjlgghaagreat", sum := "e6bf45bc5809bb7beda0aeb9e59dbea30e7012dd6f6c75b126aae9c45a4a9cf7", func := "armillary/armillarylaw14.FlowStructure", spec := "flowStructure", inPlace := ["internal/reflectlite.TypeOf"], unfollowed := true, recurses := true, apart := false, narrowed := true }
def FlowStructureUptoSaid : Prop := flowStructureUptoRow.holds Tryz.pinned (OpenSpec.upto flowStructureSpec)

/-- 'armillarylaw14.FlowSteadySolutions', WHERE WHAT IT READS IS OF BULK AT MOST 1048576: true; the input reads as it did. -/
def flowSteadySolutionsUptoRow : OpenClaim := { program := "ytdfdpghdjlgghaagreat", sum := "e6bf45bc5809bb7beda0aeb9e59dbea30e7012dd6f6c75b126aae9c45a4a9cf7", func := "armillary/armillarylaw14.FlowSteadySolutions", spec := "flowSteadySolutions", inPlace := ["internal/reflectlite.TypeOf"], unfollowed := true, recurses := true, apart := false, narrowed := true }
def FlowSteadySolutionsUptoSaid : Prop := flowSteadySolutionsUptoRow.holds Tryz.pinned (OpenSpec.upto flowSteadySolutionsSpec)

/-- 'armillarylaw14.FlowParabolas', WHERE WHAT IT READS IS OF BULK AT MOST 1048576: true; the input reads as it did. -/
def flowParabolasUptoRow : OpenClaim := { program := "ytdfdpghdjlgghaagreat", sum := "e6bf45bc5809bb7beda0aeb9e59dbea30e7012dd6f6c75b126aae9c45a4a9cf7", func := "armillary/armillarylaw14.FlowParabolas", spec := "flowParabolas", inPlace := ["internal/reflectlite.TypeOf"], unfollowed := true, recurses := true, apart := false, narrowed := true }
def FlowParabolasUptoSaid : Prop := flowParabolasUptoRow.holds Tryz.pinned (OpenSpec.upto flowParabolasSpec)

/-- 'armillarylaw14.FlowClock', WHERE WHAT IT READS IS OF BULK AT MOST 1048576: true; the input reads as it did. -/
def flowClockUptoRow : OpenClaim := { program := "ytdfdpghdjlgghaagreat", sum := "e6bf45bc5809bb7beda0aeb9e59dbea30e7012dd6f6c75b126aae9c45a4a9cf7", func := "armillary/armillarylaw14.FlowClock", spec := "flowClock", inPlace := ["internal/reflectlite.TypeOf"], unfollowed := true, recurses := true, apart := false, narrowed := true }
def FlowClockUptoSaid : Prop := flowClockUptoRow.holds Tryz.pinned (OpenSpec.upto flowClockSpec)

/-- 'armillarylaw14.FlowDuring', WHERE WHAT IT READS IS OF BULK AT MOST 1048576: true; the input reads as it did. -/
def flowDuringUptoRow : OpenClaim := { program := "ytdfdpghdjlgghaagreat", sum := "e6bf45bc5809bb7beda0aeb9e59dbea30e7012dd6f6c75b126aae9c45a4a9cf7", func := "armillary/armillarylaw14.FlowDuring", spec := "flowDuring", inPlace := ["internal/reflectlite.TypeOf"], unfollowed := true, recurses := true, apart := false, narrowed := true }
def FlowDuringUptoSaid : Prop := flowDuringUptoRow.holds Tryz.pinned (OpenSpec.upto flowDuringSpec)

/-- 'armillarylaw14.FlowItems', WHERE WHAT IT READS IS OF BULK AT MOST 1048576: true; the input reads as it did. -/
def flowItemsUptoRow : OpenClaim := { program := "ytdfdpghdjlgghaagreat", sum := "e6bf45bc5809bb7beda0aeb9e59dbea30e7012dd6f6c75b126aae9c45a4a9cf7", func := "armillary/armillarylaw14.FlowItems", spec := "flowItems", inPlace := ["internal/reflectlite.TypeOf"], unfollowed := true, recurses := true, apart := false, narrowed := true }
def FlowItemsUptoSaid : Prop := flowItemsUptoRow.holds Tryz.pinned (OpenSpec.upto flowItemsSpec)

/-- 'armillarylaw14.FlowErrors', WHERE WHAT IT READS IS OF BULK AT MOST 1048576: true; the input reads as it did. -/
def flowErrorsUptoRow : OpenClaim := { program := "ytdfdpghdjlgghaagreat", sum := "e6bf45bc5809bb7beda0aeb9e59dbea30e7012dd6f6c75b126aae9c45a4a9cf7", func := "armillary/armillarylaw14.FlowErrors", spec := "flowErrors", inPlace := ["internal/reflectlite.TypeOf"], unfollowed := true, recurses := true, apart := false, narrowed := true }
def FlowErrorsUptoSaid : Prop := flowErrorsUptoRow.holds Tryz.pinned (OpenSpec.upto flowErrorsSpec)

end Rows
end Go.Proofs.YtdfdpghdjlgghaaGreat
