/-
  No cell of these rows narrows 'for every input' (looked for: loops, veiled, ifaces, maps, wideKeys, modest, calm, conditions, laid).
  DERIVED. THE GIVEN ROWS OF THIS SEAT. 8 by the template 'for every input the law returns true; each argument reads behind the call as it read before'; 0 by the template 'total and deterministic' (their statements: YtekjflfkbgklhaaGreatTotals.lean).
  GIVEN WITH THE SEED: the statements are not yours to turn. If you find one false, say at which input.
  Laid BY PROGRAM, IN A SANDBOX (cutbox-rows.mjs): the forced cells as the released guide's own fill.sh prints them over the translation f03d46e201411652… (all of the seat's roots in one cut). By AI agents, Wed Nov 11 2026. No macro, syntax, notation, axiom, sorry.
-/
import Derived.Test.YtekjflfkbgklhaaGreatChecked
import GoSem.Claim
import GoSem.ClaimJoined
import GoSem.ClaimMapViews
import Derived.JoinedTies
import Derived.KernelRfl
namespace Go.Proofs.YtekjflfkbgklhaaGreat
/- THE CELL 'sum', in the pinned program and in every row, IS THE sha256 OF THE DUMP (.gsa) THAT YtekjflfkbgklhaaGreatProg.lean LOADS. Nothing in Lean hashes anything: it is a label: what it is worth is what the hold of that sum in a sandbox is worth. -/
noncomputable def Tryz.pinned : Pinned := { name := "ytekjflfkbgklhaagreat", sum := "f03d46e201411652342e75097659ae435349ddb54d88b41f87ac01789bb76d08", checked := Tryz.checked }
namespace Rows
def none {H : Type} : Left H := { results := [], args := [] }

/-- 'armillarylaw13.ControlMatchesReference': WHATEVER THE INPUT: true; the input reads as it did. -/
def controlMatchesReferenceSpec : ChangeSpec := { name := "controlMatchesReference", fn := fun _ => fun
  | [d1, d2, d3] => { results := [.lit (.bool true)], args := [d1, d2, d3] }
  | _ => none }
def controlMatchesReferenceRow : OpenClaim := { program := "ytekjflfkbgklhaagreat", sum := "f03d46e201411652342e75097659ae435349ddb54d88b41f87ac01789bb76d08", func := "armillary/armillarylaw13.ControlMatchesReference", spec := "controlMatchesReference", unfollowed := true, recurses := true, apart := false }
def ControlMatchesReferenceSaid : Prop := controlMatchesReferenceRow.holds Tryz.pinned (OpenSpec.ofChange controlMatchesReferenceSpec)

/-- ITS FALSE NEIGHBOUR: 'it returns false'. Refute it at one input. -/
def controlMatchesReferenceWrong : ChangeSpec := { name := "controlMatchesReference", fn := fun _ => fun
  | [d1, d2, d3] => { results := [.lit (.bool false)], args := [d1, d2, d3] }
  | _ => none }
def ControlMatchesReferenceWrongFalsely : Prop := controlMatchesReferenceRow.holds Tryz.pinned (OpenSpec.ofChange controlMatchesReferenceWrong)

/-- 'armillarylaw13.ControlAdvanceMatchesReference': WHATEVER THE INPUT: true; the input reads as it did. -/
def controlAdvanceMatchesReferenceSpec : ChangeSpec := { name := "controlAdvanceMatchesReference", fn := fun _ => fun
  | [d] => { results := [.lit (.bool true)], args := [d] }
  | _ => none }
def controlAdvanceMatchesReferenceRow : OpenClaim := { program := "ytekjflfkbgklhaagreat", sum := "f03d46e201411652342e75097659ae435349ddb54d88b41f87ac01789bb76d08", func := "armillary/armillarylaw13.ControlAdvanceMatchesReference", spec := "controlAdvanceMatchesReference", unfollowed := true, recurses := true, apart := false }
def ControlAdvanceMatchesReferenceSaid : Prop := controlAdvanceMatchesReferenceRow.holds Tryz.pinned (OpenSpec.ofChange controlAdvanceMatchesReferenceSpec)

/-- ITS FALSE NEIGHBOUR: 'it returns false'. Refute it at one input. -/
def controlAdvanceMatchesReferenceWrong : ChangeSpec := { name := "controlAdvanceMatchesReference", fn := fun _ => fun
  | [d] => { results := [.lit (.bool false)], args := [d] }
  | _ => none }
def ControlAdvanceMatchesReferenceWrongFalsely : Prop := controlAdvanceMatchesReferenceRow.holds Tryz.pinned (OpenSpec.ofChange controlAdvanceMatchesReferenceWrong)

/-- 'armillarylaw13.ControlSoundness': WHATEVER THE INPUT: true; the input reads as it did. -/
def controlSoundnessSpec : ChangeSpec := { name := "controlSoundness", fn := fun _ => fun
  | [d] => { results := [.lit (.bool true)], args := [d] }
  | _ => none }
def controlSoundnessRow : OpenClaim := { program := "ytekjflfkbgklhaagreat", sum := "f03d46e201411652342e75097659ae435349ddb54d88b41f87ac01789bb76d08", func := "armillary/armillarylaw13.ControlSoundness", spec := "controlSoundness", unfollowed := true, recurses := true, apart := false }
def ControlSoundnessSaid : Prop := controlSoundnessRow.holds Tryz.pinned (OpenSpec.ofChange controlSoundnessSpec)

/-- ITS FALSE NEIGHBOUR: 'it returns false'. Refute it at one input. -/
def controlSoundnessWrong : ChangeSpec := { name := "controlSoundness", fn := fun _ => fun
  | [d] => { results := [.lit (.bool false)], args := [d] }
  | _ => none }
def ControlSoundnessWrongFalsely : Prop := controlSoundnessRow.holds Tryz.pinned (OpenSpec.ofChange controlSoundnessWrong)

/-- 'armillarylaw13.ControlGreediness': WHATEVER THE INPUT: true; the input reads as it did. -/
def controlGreedinessSpec : ChangeSpec := { name := "controlGreediness", fn := fun _ => fun
  | [d] => { results := [.lit (.bool true)], args := [d] }
  | _ => none }
def controlGreedinessRow : OpenClaim := { program := "ytekjflfkbgklhaagreat", sum := "f03d46e201411652342e75097659ae435349ddb54d88b41f87ac01789bb76d08", func := "armillary/armillarylaw13.ControlGreediness", spec := "controlGreediness", unfollowed := true, recurses := true, apart := false }
def ControlGreedinessSaid : Prop := controlGreedinessRow.holds Tryz.pinned (OpenSpec.ofChange controlGreedinessSpec)

/-- ITS FALSE NEIGHBOUR: 'it returns false'. Refute it at one input. -/
def controlGreedinessWrong : ChangeSpec := { name := "controlGreediness", fn := fun _ => fun
  | [d] => { results := [.lit (.bool false)], args := [d] }
  | _ => none }
def ControlGreedinessWrongFalsely : Prop := controlGreedinessRow.holds Tryz.pinned (OpenSpec.ofChange controlGreedinessWrong)

/-- 'armillarylaw13.ControlStepSizes': WHATEVER THE INPUT: true; the input reads as it did. -/
def controlStepSizesSpec : ChangeSpec := { name := "controlStepSizes", fn := fun _ => fun
  | [d1, d2] => { results := [.lit (.bool true)], args := [d1, d2] }
  | _ => none }
def controlStepSizesRow : OpenClaim := { program := "ytekjflfkbgklhaagreat", sum := "f03d46e201411652342e75097659ae435349ddb54d88b41f87ac01789bb76d08", func := "armillary/armillarylaw13.ControlStepSizes", spec := "controlStepSizes", unfollowed := true, recurses := true, apart := false }
def ControlStepSizesSaid : Prop := controlStepSizesRow.holds Tryz.pinned (OpenSpec.ofChange controlStepSizesSpec)

/-- ITS FALSE NEIGHBOUR: 'it returns false'. Refute it at one input. -/
def controlStepSizesWrong : ChangeSpec := { name := "controlStepSizes", fn := fun _ => fun
  | [d1, d2] => { results := [.lit (.bool false)], args := [d1, d2] }
  | _ => none }
def ControlStepSizesWrongFalsely : Prop := controlStepSizesRow.holds Tryz.pinned (OpenSpec.ofChange controlStepSizesWrong)

/-- 'armillarylaw13.ControlMonotonicity': WHATEVER THE INPUT: true; the input reads as it did. -/
def controlMonotonicitySpec : ChangeSpec := { name := "controlMonotonicity", fn := fun _ => fun
  | [d1, d2, d3] => { results := [.lit (.bool true)], args := [d1, d2, d3] }
  | _ => none }
def controlMonotonicityRow : OpenClaim := { program := "ytekjflfkbgklhaagreat", sum := "f03d46e201411652342e75097659ae435349ddb54d88b41f87ac01789bb76d08", func := "armillary/armillarylaw13.ControlMonotonicity", spec := "controlMonotonicity", unfollowed := true, recurses := true, apart := false }
def ControlMonotonicitySaid : Prop := controlMonotonicityRow.holds Tryz.pinned (OpenSpec.ofChange controlMonotonicitySpec)

/-- ITS FALSE NEIGHBOUR: 'it returns false'. Refute it at one input. -/
def controlMonotonicityWrong : ChangeSpec := { name := "controlMonotonicity", fn := fun _ => fun
  | [d1, d2, d3] => { results := [.lit (.bool false)], args := [d1, d2, d3] }
  | _ => none }
def ControlMonotonicityWrongFalsely : Prop := controlMonotonicityRow.holds Tryz.pinned (OpenSpec.ofChange controlMonotonicityWrong)

/-- 'armillarylaw13.ControlRepeat': WHATEVER THE INPUT: true; the input reads as it did. -/
def controlRepeatSpec : ChangeSpec := { name := "controlRepeat", fn := fun _ => fun
  | [d] => { results := [.lit (.bool true)], args := [d] }
  | _ => none }
def controlRepeatRow : OpenClaim := { program := "ytekjflfkbgklhaagreat", sum := "f03d46e201411652342e75097659ae435349ddb54d88b41f87ac01789bb76d08", func := "armillary/armillarylaw13.ControlRepeat", spec := "controlRepeat", unfollowed := true, recurses := true, apart := false }
def ControlRepeatSaid : Prop := controlRepeatRow.holds Tryz.pinned (OpenSpec.ofChange controlRepeatSpec)

/-- ITS FALSE NEIGHBOUR: 'it returns false'. Refute it at one input. -/
def controlRepeatWrong : ChangeSpec := { name := "controlRepeat", fn := fun _ => fun
  | [d] => { results := [.lit (.bool false)], args := [d] }
  | _ => none }
def ControlRepeatWrongFalsely : Prop := controlRepeatRow.holds Tryz.pinned (OpenSpec.ofChange controlRepeatWrong)

/-- 'armillarylaw13.ControlConstantField': WHATEVER THE INPUT: true; the input reads as it did. -/
def controlConstantFieldSpec : ChangeSpec := { name := "controlConstantField", fn := fun _ => fun
  | [d1, d2, d3] => { results := [.lit (.bool true)], args := [d1, d2, d3] }
  | _ => none }
def controlConstantFieldRow : OpenClaim := { program := "ytekjflfkbgklhaagreat", sum := "f03d46e201411652342e75097659ae435349ddb54d88b41f87ac01789bb76d08", func := "armillary/armillarylaw13.ControlConstantField", spec := "controlConstantField", unfollowed := true, recurses := true, apart := false }
def ControlConstantFieldSaid : Prop := controlConstantFieldRow.holds Tryz.pinned (OpenSpec.ofChange controlConstantFieldSpec)

/-- ITS FALSE NEIGHBOUR: 'it returns false'. Refute it at one input. -/
def controlConstantFieldWrong : ChangeSpec := { name := "controlConstantField", fn := fun _ => fun
  | [d1, d2, d3] => { results := [.lit (.bool false)], args := [d1, d2, d3] }
  | _ => none }
def ControlConstantFieldWrongFalsely : Prop := controlConstantFieldRow.holds Tryz.pinned (OpenSpec.ofChange controlConstantFieldWrong)

/- THE SECOND FORM. 'bulk': how many values and letters a reading holds, each counted each time it is reached (what is shared counts as often as it is met; a slice's spare places count too). A statement '..UptoSaid' is the law's where the arguments, and the package variables that the reading takes, are together of bulk at most 1048576: NARROWER than '..Said'. Prove '..Said' where nothing that the law and all that it calls make is longer than what came in: it says more and counts as full. Else prove '..UptoSaid'. A law counts once. -/
mutual
def uptoBulk {H : Type} : DataW H → Nat
  | .lit (.string bytes) => bytes.length + 1
  | .lit _ => 1
  | .nil => 1
  | .ptr d => uptoBulk d + 1
  | .slice elems spare => uptoBulkAll elems + uptoBulkAll spare + 1
  | .agg parts => uptoBulkAll parts + 1
  | .iface _ d => uptoBulk d + 1
  | .map entries => uptoBulkEntries entries + 1
  | .held _ => 1
def uptoBulkAll {H : Type} : List (DataW H) → Nat
  | [] => 0
  | d :: r => uptoBulk d + uptoBulkAll r
def uptoBulkEntries {H : Type} : List (Lit × DataW H) → Nat
  | [] => 0
  | x :: r => uptoBulkEntry x + uptoBulkEntries r
def uptoBulkEntry {H : Type} : Lit × DataW H → Nat
  | (.string bytes, d) => bytes.length + uptoBulk d + 1
  | (_, d) => uptoBulk d + 1
 end
def uptoSmall : (H : Type) → List (DataW H) → Bool := fun _ ds => decide (uptoBulkAll ds ≤ 1048576)
def OpenSpec.upto (s : _root_.Go.ChangeSpec) : _root_.Go.OpenSpec := { _root_.Go.OpenSpec.ofChange s with cond := some uptoSmall }

/-- 'armillarylaw13.ControlMatchesReference', WHERE WHAT IT READS IS OF BULK AT MOST 1048576: true; the input reads as it did. -/
def controlMatchesReferenceUptoRow : OpenClaim := { program := "ytekjflfkbgklhaagreat", sum := "f03d46e201411652342e75097659ae435349ddb54d88b41f87ac01789bb76d08", func := "armillary/armillarylaw13.ControlMatchesReference", spec := "controlMatchesReference", unfollowed := true, recurses := true, apart := false, narrowed := true }
def ControlMatchesReferenceUptoSaid : Prop := controlMatchesReferenceUptoRow.holds Tryz.pinned (OpenSpec.upto controlMatchesReferenceSpec)

/-- 'armillarylaw13.ControlAdvanceMatchesReference', WHERE WHAT IT READS IS OF BULK AT MOST 1048576: true; the input reads as it did. -/
def controlAdvanceMatchesReferenceUptoRow : OpenClaim := { program := "ytekjflfkbgklhaagreat", sum := "f03d46e201411652342e75097659ae435349ddb54d88b41f87ac01789bb76d08", func := "armillary/armillarylaw13.ControlAdvanceMatchesReference", spec := "controlAdvanceMatchesReference", unfollowed := true, recurses := true, apart := false, narrowed := true }
def ControlAdvanceMatchesReferenceUptoSaid : Prop := controlAdvanceMatchesReferenceUptoRow.holds Tryz.pinned (OpenSpec.upto controlAdvanceMatchesReferenceSpec)

/-- 'armillarylaw13.ControlSoundness', WHERE WHAT IT READS IS OF BULK AT MOST 1048576: true; the input reads as it did. -/
def controlSoundnessUptoRow : OpenClaim := { program := "ytekjflfkbgklhaagreat", sum := "f03d46e201411652342e75097659ae435349ddb54d88b41f87ac01789bb76d08", func := "armillary/armillarylaw13.ControlSoundness", spec := "controlSoundness", unfollowed := true, recurses := true, apart := false, narrowed := true }
def ControlSoundnessUptoSaid : Prop := controlSoundnessUptoRow.holds Tryz.pinned (OpenSpec.upto controlSoundnessSpec)

/-- 'armillarylaw13.ControlGreediness', WHERE WHAT IT READS IS OF BULK AT MOST 1048576: true; the input reads as it did. -/
def controlGreedinessUptoRow : OpenClaim := { program := "ytekjflfkbgklhaagreat", sum := "f03d46e201411652342e75097659ae435349ddb54d88b41f87ac01789bb76d08", func := "armillary/armillarylaw13.ControlGreediness", spec := "controlGreediness", unfollowed := true, recurses := true, apart := false, narrowed := true }
def ControlGreedinessUptoSaid : Prop := controlGreedinessUptoRow.holds Tryz.pinned (OpenSpec.upto controlGreedinessSpec)

/-- 'armillarylaw13.ControlStepSizes', WHERE WHAT IT READS IS OF BULK AT MOST 1048576: true; the input reads as it did. -/
def controlStepSizesUptoRow : OpenClaim := { program := "ytekjflfkbgklhaagreat", sum := "f03d46e201411652342e75097659ae435349ddb54d88b41f87ac01789bb76d08", func := "armillary/armillarylaw13.ControlStepSizes", spec := "controlStepSizes", unfollowed := true, recurses := true, apart := false, narrowed := true }
def ControlStepSizesUptoSaid : Prop := controlStepSizesUptoRow.holds Tryz.pinned (OpenSpec.upto controlStepSizesSpec)

/-- 'armillarylaw13.ControlMonotonicity', WHERE WHAT IT READS IS OF BULK AT MOST 1048576: true; the input reads as it did. -/
def controlMonotonicityUptoRow : OpenClaim := { program := "ytekjflfkbgklhaagreat", sum := "f03d46e201411652342e75097659ae435349ddb54d88b41f87ac01789bb76d08", func := "armillary/armillarylaw13.ControlMonotonicity", spec := "controlMonotonicity", unfollowed := true, recurses := true, apart := false, narrowed := true }
def ControlMonotonicityUptoSaid : Prop := controlMonotonicityUptoRow.holds Tryz.pinned (OpenSpec.upto controlMonotonicitySpec)

/-- 'armillarylaw13.ControlRepeat', WHERE WHAT IT READS IS OF BULK AT MOST 1048576: true; the input reads as it did. -/
def controlRepeatUptoRow : OpenClaim := { program := "ytekjflfkbgklhaagreat", sum := "f03d46e201411652342e75097659ae435349ddb54d88b41f87ac01789bb76d08", func := "armillary/armillarylaw13.ControlRepeat", spec := "controlRepeat", unfollowed := true, recurses := true, apart := false, narrowed := true }
def ControlRepeatUptoSaid : Prop := controlRepeatUptoRow.holds Tryz.pinned (OpenSpec.upto controlRepeatSpec)

/-- 'armillarylaw13.ControlConstantField', WHERE WHAT IT READS IS OF BULK AT MOST 1048576: true; the input reads as it did. -/
def controlConstantFieldUptoRow : OpenClaim := { program := "ytekjflfkbgklhaagreat", sum := "f03d46e201411652342e75097659ae435349ddb54d88b41f87ac01789bb76d08", func := "armillary/armillarylaw13.ControlConstantField", spec := "controlConstantField", unfollowed := true, recurses := true, apart := false, narrowed := true }
def ControlConstantFieldUptoSaid : Prop := controlConstantFieldUptoRow.holds Tryz.pinned (OpenSpec.upto controlConstantFieldSpec)

end Rows
end Go.Proofs.YtekjflfkbgklhaaGreat
