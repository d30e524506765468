/-
  No cell of these rows narrows 'for every input' (looked for: loops, veiled, ifaces, maps, wideKeys, modest, calm, conditions, laid).
  DERIVED. THE GIVEN ROWS OF THIS SEAT. 2 by the template 'for every input the law returns true; each argument reads behind the call as it read before'; 0 by the template 'total and deterministic' (their statements: YtmcdkbnpcmiojaaTotals.lean).
  GIVEN WITH THE SEED: the statements are not yours to turn. If you find one false, say at which input.
  Laid BY PROGRAM, IN A SANDBOX (cutbox-rows.mjs): the forced cells as the released guide's own fill.sh prints them over the translation 975c6306d1c646fc… (all of the seat's roots in one cut). By AI agents, Wed Nov 11 2026. No macro, syntax, notation, axiom, sorry.
-/
import Derived.Test.YtmcdkbnpcmiojaaChecked
import GoSem.Claim
import GoSem.ClaimJoined
import GoSem.ClaimMapViews
import Derived.JoinedTies
import Derived.KernelRfl
namespace Go.Proofs.Ytmcdkbnpcmiojaa
/- THE CELL 'sum', in the pinned program and in every row, IS THE sha256 OF THE DUMP (.gsa) THAT YtmcdkbnpcmiojaaProg.lean LOADS. Nothing in Lean hashes anything: it is a label: what it is worth is what the hold of that sum in a sandbox is worth. -/
noncomputable def Try.pinned : Pinned := { name := "ytmcdkbnpcmiojaa", sum := "975c6306d1c646fccbc5c28e9a6570270493032ec178e560613d59e3f84b74c6", checked := Try.checked }
namespace Rows
def none {H : Type} : Left H := { results := [], args := [] }

/-- 'armillarylaw04.MatrixOrthogonality': WHATEVER THE INPUT: true; the input reads as it did. -/
def matrixOrthogonalitySpec : ChangeSpec := { name := "matrixOrthogonality", fn := fun _ => fun
  | [d1, d2] => { results := [.lit (.bool true)], args := [d1, d2] }
  | _ => none }
def matrixOrthogonalityRow : OpenClaim := { program := "ytmcdkbnpcmiojaa", sum := "975c6306d1c646fccbc5c28e9a6570270493032ec178e560613d59e3f84b74c6", func := "armillary/armillarylaw04.MatrixOrthogonality", spec := "matrixOrthogonality", unfollowed := true, recurses := true, apart := false }
def MatrixOrthogonalitySaid : Prop := matrixOrthogonalityRow.holds Try.pinned (OpenSpec.ofChange matrixOrthogonalitySpec)

/-- ITS FALSE NEIGHBOUR: 'it returns false'. Refute it at one input. -/
def matrixOrthogonalityWrong : ChangeSpec := { name := "matrixOrthogonality", fn := fun _ => fun
  | [d1, d2] => { results := [.lit (.bool false)], args := [d1, d2] }
  | _ => none }
def MatrixOrthogonalityWrongFalsely : Prop := matrixOrthogonalityRow.holds Try.pinned (OpenSpec.ofChange matrixOrthogonalityWrong)

/-- 'armillarylaw04.MatrixOrthogonalizeIdempotent': WHATEVER THE INPUT: true; the input reads as it did. -/
def matrixOrthogonalizeIdempotentSpec : ChangeSpec := { name := "matrixOrthogonalizeIdempotent", fn := fun _ => fun
  | [d1, d2] => { results := [.lit (.bool true)], args := [d1, d2] }
  | _ => none }
def matrixOrthogonalizeIdempotentRow : OpenClaim := { program := "ytmcdkbnpcmiojaa", sum := "975c6306d1c646fccbc5c28e9a6570270493032ec178e560613d59e3f84b74c6", func := "armillary/armillarylaw04.MatrixOrthogonalizeIdempotent", spec := "matrixOrthogonalizeIdempotent", unfollowed := true, recurses := true, apart := false }
def MatrixOrthogonalizeIdempotentSaid : Prop := matrixOrthogonalizeIdempotentRow.holds Try.pinned (OpenSpec.ofChange matrixOrthogonalizeIdempotentSpec)

/-- ITS FALSE NEIGHBOUR: 'it returns false'. Refute it at one input. -/
def matrixOrthogonalizeIdempotentWrong : ChangeSpec := { name := "matrixOrthogonalizeIdempotent", fn := fun _ => fun
  | [d1, d2] => { results := [.lit (.bool false)], args := [d1, d2] }
  | _ => none }
def MatrixOrthogonalizeIdempotentWrongFalsely : Prop := matrixOrthogonalizeIdempotentRow.holds Try.pinned (OpenSpec.ofChange matrixOrthogonalizeIdempotentWrong)

/- THE SECOND FORM. 'bulk': how many values and letters a reading holds, each counted each time it is reached (what is shared counts as often as it is met; a slice's spare places count too). A statement '..UptoSaid' is the law's where the arguments, and the package variables that the reading takes, are together of bulk at most 1048576: NARROWER than '..Said'. Prove '..Said' where nothing that the law and all that it calls make is longer than what came in: it says more and counts as full. Else prove '..UptoSaid'. A law counts once. -/
mutual
def uptoBulk {H : Type} : DataW H → Nat
  | .lit (.string bytes) => bytes.length + 1
  | .lit _ => 1
  | .nil => 1
  | .ptr d => uptoBulk d + 1
  | .slice elems spare => uptoBulkAll elems + uptoBulkAll spare + 1
  | .agg parts => uptoBulkAll parts + 1
  | .iface _ d => uptoBulk d + 1
  | .map entries => uptoBulkEntries entries + 1
  | .held _ => 1
def uptoBulkAll {H : Type} : List (DataW H) → Nat
  | [] => 0
  | d :: r => uptoBulk d + uptoBulkAll r
def uptoBulkEntries {H : Type} : List (Lit × DataW H) → Nat
  | [] => 0
  | x :: r => uptoBulkEntry x + uptoBulkEntries r
def uptoBulkEntry {H : Type} : Lit × DataW H → Nat
  | (.string bytes, d) => bytes.length + uptoBulk d + 1
  | (_, d) => uptoBulk d + 1
 end
def uptoSmall : (H : Type) → List (DataW H) → Bool := fun _ ds => decide (uptoBulkAll ds ≤ 1048576)
def OpenSpec.upto (s : _root_.Go.ChangeSpec) : _root_.Go.OpenSpec := { _root_.Go.OpenSpec.ofChange s with cond := some uptoSmall }

/-- 'armillarylaw04.MatrixOrthogonality', WHERE WHAT IT READS IS OF BULK AT MOST 1048576: true; the input reads as it did. -/
def matrixOrthogonalityUptoRow : OpenClaim := { program := "ytmcdkbnpcmiojaa", sum := "975c6306d1c646fccbc5c28e9a6570270493032ec178e560613d59e3f84b74c6", func := "armillary/armillarylaw04.MatrixOrthogonality", spec := "matrixOrthogonality", unfollowed := true, recurses := true, apart := false, narrowed := true }
def MatrixOrthogonalityUptoSaid : Prop := matrixOrthogonalityUptoRow.holds Try.pinned (OpenSpec.upto matrixOrthogonalitySpec)

/-- 'armillarylaw04.MatrixOrthogonalizeIdempotent', WHERE WHAT IT READS IS OF BULK AT MOST 1048576: true; the input reads as it did. -/
def matrixOrthogonalizeIdempotentUptoRow : OpenClaim := { program := "ytmcdkbnpcmiojaa", sum := "975c6306d1c646fccbc5c28e9a6570270493032ec178e560613d59e3f84b74c6", func := "armillary/armillarylaw04.MatrixOrthogonalizeIdempotent", spec := "matrixOrthogonalizeIdempotent", unfollowed := true, recurses := true, apart := false, narrowed := true }
def MatrixOrthogonalizeIdempotentUptoSaid : Prop := matrixOrthogonalizeIdempotentUptoRow.holds Try.pinned (OpenSpec.upto matrixOrthogonalizeIdempotentSpec)

end Rows
end Go.Proofs.Ytmcdkbnpcmiojaa
