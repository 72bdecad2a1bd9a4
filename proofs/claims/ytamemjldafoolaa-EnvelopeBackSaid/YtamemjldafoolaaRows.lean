/-
  No cell of these rows narrows 'for every input' (looked for: loops, veiled, ifaces, maps, wideKeys, modest, calm, conditions, laid).
  DERIVED. THE GIVEN ROWS OF THIS SEAT. 4 by the template 'for every input the law returns true; each argument reads behind the call as it read before'; 0 by the template 'total and deterministic' (their statements: YtamemjldafoolaaTotals.lean).
  GIVEN WITH THE SEED: the statements are not yours to turn. If you find one false, say at which input.
  Laid BY PROGRAM, IN A SANDBOX (cutbox-rows.mjs): the forced cells as the released guide's own fill.sh prints them over the translation 46d17bae30260b5a… (all of the seat's roots in one cut). By AI agents, Wed Nov 11 2026. No macro, syntax, notation, axiom, sorry.
-/
import Derived.Test.YtamemjldafoolaaChecked
import GoSem.Claim
import GoSem.ClaimJoined
import GoSem.ClaimMapViews
import Derived.JoinedTies
import Derived.KernelRfl
namespace Go.Proofs.Ytamemjldafoolaa
/- THE CELL 'sum', in the pinned program and in every row, IS THE sha256 OF THE DUMP (.gsa) THAT YtamemjldafoolaaProg.lean LOADS. Nothing in Lean hashes anything: it is a label: what it is worth is what the hold of that sum in a sandbox is worth. -/
noncomputable def Try.pinned : Pinned := { name := "ytamemjldafoolaa", sum := "46d17bae30260b5adb310830b97bd7db71fa71e03493e4b03552df170b6a2bd4", checked := Try.checked }
namespace Rows
def none {H : Type} : Left H := { results := [], args := [] }

/-- 'strongroomlaw14.EnvelopeBlobs': WHATEVER THE INPUT: true; the input reads as it did. -/
def envelopeBlobsSpec : ChangeSpec := { name := "envelopeBlobs", fn := fun _ => fun
  | [d1, d2, d3] => { results := [.lit (.bool true)], args := [d1, d2, d3] }
  | _ => none }
def envelopeBlobsRow : OpenClaim := { program := "ytamemjldafoolaa", sum := "46d17bae30260b5adb310830b97bd7db71fa71e03493e4b03552df170b6a2bd4", func := "strongroom/strongroomlaw14.EnvelopeBlobs", spec := "envelopeBlobs", unfollowed := true, recurses := true, apart := false }
def EnvelopeBlobsSaid : Prop := envelopeBlobsRow.holds Try.pinned (OpenSpec.ofChange envelopeBlobsSpec)

/-- ITS FALSE NEIGHBOUR: 'it returns false'. Refute it at one input. -/
def envelopeBlobsWrong : ChangeSpec := { name := "envelopeBlobs", fn := fun _ => fun
  | [d1, d2, d3] => { results := [.lit (.bool false)], args := [d1, d2, d3] }
  | _ => none }
def EnvelopeBlobsWrongFalsely : Prop := envelopeBlobsRow.holds Try.pinned (OpenSpec.ofChange envelopeBlobsWrong)

/-- 'strongroomlaw14.EnvelopeBack': WHATEVER THE INPUT: true; the input reads as it did. -/
def envelopeBackSpec : ChangeSpec := { name := "envelopeBack", fn := fun _ => fun
  | [d1, d2, d3] => { results := [.lit (.bool true)], args := [d1, d2, d3] }
  | _ => none }
def envelopeBackRow : OpenClaim := { program := "ytamemjldafoolaa", sum := "46d17bae30260b5adb310830b97bd7db71fa71e03493e4b03552df170b6a2bd4", func := "strongroom/strongroomlaw14.EnvelopeBack", spec := "envelopeBack", unfollowed := true, recurses := true, apart := false }
def EnvelopeBackSaid : Prop := envelopeBackRow.holds Try.pinned (OpenSpec.ofChange envelopeBackSpec)

/-- ITS FALSE NEIGHBOUR: 'it returns false'. Refute it at one input. -/
def envelopeBackWrong : ChangeSpec := { name := "envelopeBack", fn := fun _ => fun
  | [d1, d2, d3] => { results := [.lit (.bool false)], args := [d1, d2, d3] }
  | _ => none }
def EnvelopeBackWrongFalsely : Prop := envelopeBackRow.holds Try.pinned (OpenSpec.ofChange envelopeBackWrong)

/-- 'strongroomlaw14.EnvelopeUses': WHATEVER THE INPUT: true; the input reads as it did. -/
def envelopeUsesSpec : ChangeSpec := { name := "envelopeUses", fn := fun _ => fun
  | [d1, d2] => { results := [.lit (.bool true)], args := [d1, d2] }
  | _ => none }
def envelopeUsesRow : OpenClaim := { program := "ytamemjldafoolaa", sum := "46d17bae30260b5adb310830b97bd7db71fa71e03493e4b03552df170b6a2bd4", func := "strongroom/strongroomlaw14.EnvelopeUses", spec := "envelopeUses", unfollowed := true, recurses := true, apart := false }
def EnvelopeUsesSaid : Prop := envelopeUsesRow.holds Try.pinned (OpenSpec.ofChange envelopeUsesSpec)

/-- ITS FALSE NEIGHBOUR: 'it returns false'. Refute it at one input. -/
def envelopeUsesWrong : ChangeSpec := { name := "envelopeUses", fn := fun _ => fun
  | [d1, d2] => { results := [.lit (.bool false)], args := [d1, d2] }
  | _ => none }
def EnvelopeUsesWrongFalsely : Prop := envelopeUsesRow.holds Try.pinned (OpenSpec.ofChange envelopeUsesWrong)

/-- 'strongroomlaw14.EnvelopeTurned': WHATEVER THE INPUT: true; the input reads as it did. -/
def envelopeTurnedSpec : ChangeSpec := { name := "envelopeTurned", fn := fun _ => fun
  | [d1, d2, d3] => { results := [.lit (.bool true)], args := [d1, d2, d3] }
  | _ => none }
def envelopeTurnedRow : OpenClaim := { program := "ytamemjldafoolaa", sum := "46d17bae30260b5adb310830b97bd7db71fa71e03493e4b03552df170b6a2bd4", func := "strongroom/strongroomlaw14.EnvelopeTurned", spec := "envelopeTurned", unfollowed := true, recurses := true, apart := false }
def EnvelopeTurnedSaid : Prop := envelopeTurnedRow.holds Try.pinned (OpenSpec.ofChange envelopeTurnedSpec)

/-- ITS FALSE NEIGHBOUR: 'it returns false'. Refute it at one input. -/
def envelopeTurnedWrong : ChangeSpec := { name := "envelopeTurned", fn := fun _ => fun
  | [d1, d2, d3] => { results := [.lit (.bool false)], args := [d1, d2, d3] }
  | _ => none }
def EnvelopeTurnedWrongFalsely : Prop := envelopeTurnedRow.holds Try.pinned (OpenSpec.ofChange envelopeTurnedWrong)

/- THE SECOND FORM. 'bulk': how many values and letters a reading holds, each counted each time it is reached (what is shared counts as often as it is met; a slice's spare places count too). A statement '..UptoSaid' is the law's where the arguments, and the package variables that the reading takes, are together of bulk at most 1048576: NARROWER than '..Said'. Prove '..Said' where nothing that the law and all that it calls make is longer than what came in: it says more and counts as full. Else prove '..UptoSaid'. A law counts once. -/
mutual
def uptoBulk {H : Type} : DataW H → Nat
  | .lit (.string bytes) => bytes.length + 1
  | .lit _ => 1
  | .nil => 1
  | .ptr d => uptoBulk d + 1
  | .slice elems spare => uptoBulkAll elems + uptoBulkAll spare + 1
  | .agg parts => uptoBulkAll parts + 1
  | .iface _ d => uptoBulk d + 1
  | .map entries => uptoBulkEntries entries + 1
  | .held _ => 1
def uptoBulkAll {H : Type} : List (DataW H) → Nat
  | [] => 0
  | d :: r => uptoBulk d + uptoBulkAll r
def uptoBulkEntries {H : Type} : List (Lit × DataW H) → Nat
  | [] => 0
  | x :: r => uptoBulkEntry x + uptoBulkEntries r
def uptoBulkEntry {H : Type} : Lit × DataW H → Nat
  | (.string bytes, d) => bytes.length + uptoBulk d + 1
  | (_, d) => uptoBulk d + 1
 end
def uptoSmall : (H : Type) → List (DataW H) → Bool := fun _ ds => decide (uptoBulkAll ds ≤ 1048576)
def OpenSpec.upto (s : _root_.Go.ChangeSpec) : _root_.Go.OpenSpec := { _root_.Go.OpenSpec.ofChange s with cond := some uptoSmall }

/-- 'strongroomlaw14.EnvelopeBlobs', WHERE WHAT IT READS IS OF BULK AT MOST 1048576: true; the input reads as it did. -/
def envelopeBlobsUptoRow : OpenClaim := { program := "ytamemjldafoolaa", sum := "46d17bae30260b5adb310830b97bd7db71fa71e03493e4b03552df170b6a2bd4", func := "strongroom/strongroomlaw14.EnvelopeBlobs", spec := "envelopeBlobs", unfollowed := true, recurses := true, apart := false, narrowed := true }
def EnvelopeBlobsUptoSaid : Prop := envelopeBlobsUptoRow.holds Try.pinned (OpenSpec.upto envelopeBlobsSpec)

/-- 'strongroomlaw14.EnvelopeBack', WHERE WHAT IT READS IS OF BULK AT MOST 1048576: true; the input reads as it did. -/
def envelopeBackUptoRow : OpenClaim := { program := "ytamemjldafoolaa", sum := "46d17bae30260b5adb310830b97bd7db71fa71e03493e4b03552df170b6a2bd4", func := "strongroom/strongroomlaw14.EnvelopeBack", spec := "envelopeBack", unfollowed := true, recurses := true, apart := false, narrowed := true }
def EnvelopeBackUptoSaid : Prop := envelopeBackUptoRow.holds Try.pinned (OpenSpec.upto envelopeBackSpec)

/-- 'strongroomlaw14.EnvelopeUses', WHERE WHAT IT READS IS OF BULK AT MOST 1048576: true; the input reads as it did. -/
def envelopeUsesUptoRow : OpenClaim := { program := "ytamemjldafoolaa", sum := "46d17bae30260b5adb310830b97bd7db71fa71e03493e4b03552df170b6a2bd4", func := "strongroom/strongroomlaw14.EnvelopeUses", spec := "envelopeUses", unfollowed := true, recurses := true, apart := false, narrowed := true }
def EnvelopeUsesUptoSaid : Prop := envelopeUsesUptoRow.holds Try.pinned (OpenSpec.upto envelopeUsesSpec)

/-- 'strongroomlaw14.EnvelopeTurned', WHERE WHAT IT READS IS OF BULK AT MOST 1048576: true; the input reads as it did. -/
def envelopeTurnedUptoRow : OpenClaim := { program := "ytamemjldafoolaa", sum := "46d17bae30260b5adb310830b97bd7db71fa71e03493e4b03552df170b6a2bd4", func := "strongroom/strongroomlaw14.EnvelopeTurned", spec := "envelopeTurned", unfollowed := true, recurses := true, apart := false, narrowed := true }
def EnvelopeTurnedUptoSaid : Prop := envelopeTurnedUptoRow.holds Try.pinned (OpenSpec.upto envelopeTurnedSpec)

end Rows
end Go.Proofs.Ytamemjldafoolaa
