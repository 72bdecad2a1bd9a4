/-
  No cell of these rows narrows 'for every input' (looked for: loops, veiled, ifaces, maps, wideKeys, modest, calm, conditions, laid).
  DERIVED. THE GIVEN ROWS OF THIS SEAT. 7 by the template 'for every input the law returns true; each argument reads behind the call as it read before'; 0 by the template 'total and deterministic' (their statements: YtokhldihfbaeoaaTotals.lean).
  GIVEN WITH THE SEED: the statements are not yours to turn. If you find one false, say at which input.
  Laid BY PROGRAM, IN A SANDBOX (cutbox-rows.mjs): the forced cells as the released guide's own fill.sh prints them over the translation 67f23186ec4f7cdb… (all of the seat's roots in one cut). By AI agents, Wed Nov 11 2026. No macro, syntax, notation, axiom, sorry.
-/
import Derived.Test.YtokhldihfbaeoaaChecked
import GoSem.Claim
import GoSem.ClaimJoined
import GoSem.ClaimMapViews
import Derived.JoinedTies
import Derived.KernelRfl
namespace Go.Proofs.Ytokhldihfbaeoaa
/- THE CELL 'sum', in the pinned program and in every row, IS THE sha256 OF THE DUMP (.gsa) THAT YtokhldihfbaeoaaProg.lean LOADS. Nothing in Lean hashes anything: it is a label: what it is worth is what the hold of that sum in a sandbox is worth. -/
noncomputable def Try.pinned : Pinned := { name := "ytokhldihfbaeoaa", sum := "67f23186ec4f7cdb5795708e38afb3eb7a52f2dc249b38f903e9cb7a0539b879", checked := Try.checked }
namespace Rows
def none {H : Type} : Left H := { results := [], args := [] }

/-- 'strongroomlaw04.GcmXors': WHATEVER THE INPUT: true; the input reads as it did. -/
def gcmXorsSpec : ChangeSpec := { name := "gcmXors", fn := fun _ => fun
  | [d1, d2, d3] => { results := [.lit (.bool true)], args := [d1, d2, d3] }
  | _ => none }
def gcmXorsRow : OpenClaim := { program := "ytokhldihfbaeoaa", sum := "67f23186ec4f7cdb5795708e38afb3eb7a52f2dc249b38f903e9cb7a0539b879", func := "strongroom/strongroomlaw04.GcmXors", spec := "gcmXors", apart := false }
def GcmXorsSaid : Prop := gcmXorsRow.holds Try.pinned (OpenSpec.ofChange gcmXorsSpec)

/-- ITS FALSE NEIGHBOUR: 'it returns false'. Refute it at one input. -/
def gcmXorsWrong : ChangeSpec := { name := "gcmXors", fn := fun _ => fun
  | [d1, d2, d3] => { results := [.lit (.bool false)], args := [d1, d2, d3] }
  | _ => none }
def GcmXorsWrongFalsely : Prop := gcmXorsRow.holds Try.pinned (OpenSpec.ofChange gcmXorsWrong)

/-- 'strongroomlaw04.GcmTags': WHATEVER THE INPUT: true; the input reads as it did. -/
def gcmTagsSpec : ChangeSpec := { name := "gcmTags", fn := fun _ => fun
  | [d1, d2] => { results := [.lit (.bool true)], args := [d1, d2] }
  | _ => none }
def gcmTagsRow : OpenClaim := { program := "ytokhldihfbaeoaa", sum := "67f23186ec4f7cdb5795708e38afb3eb7a52f2dc249b38f903e9cb7a0539b879", func := "strongroom/strongroomlaw04.GcmTags", spec := "gcmTags", apart := false }
def GcmTagsSaid : Prop := gcmTagsRow.holds Try.pinned (OpenSpec.ofChange gcmTagsSpec)

/-- ITS FALSE NEIGHBOUR: 'it returns false'. Refute it at one input. -/
def gcmTagsWrong : ChangeSpec := { name := "gcmTags", fn := fun _ => fun
  | [d1, d2] => { results := [.lit (.bool false)], args := [d1, d2] }
  | _ => none }
def GcmTagsWrongFalsely : Prop := gcmTagsRow.holds Try.pinned (OpenSpec.ofChange gcmTagsWrong)

/-- 'strongroomlaw04.GcmSeals': WHATEVER THE INPUT: true; the input reads as it did. -/
def gcmSealsSpec : ChangeSpec := { name := "gcmSeals", fn := fun _ => fun
  | [d1, d2, d3] => { results := [.lit (.bool true)], args := [d1, d2, d3] }
  | _ => none }
def gcmSealsRow : OpenClaim := { program := "ytokhldihfbaeoaa", sum := "67f23186ec4f7cdb5795708e38afb3eb7a52f2dc249b38f903e9cb7a0539b879", func := "strongroom/strongroomlaw04.GcmSeals", spec := "gcmSeals", apart := false }
def GcmSealsSaid : Prop := gcmSealsRow.holds Try.pinned (OpenSpec.ofChange gcmSealsSpec)

/-- ITS FALSE NEIGHBOUR: 'it returns false'. Refute it at one input. -/
def gcmSealsWrong : ChangeSpec := { name := "gcmSeals", fn := fun _ => fun
  | [d1, d2, d3] => { results := [.lit (.bool false)], args := [d1, d2, d3] }
  | _ => none }
def GcmSealsWrongFalsely : Prop := gcmSealsRow.holds Try.pinned (OpenSpec.ofChange gcmSealsWrong)

/-- 'strongroomlaw04.GcmBack': WHATEVER THE INPUT: true; the input reads as it did. -/
def gcmBackSpec : ChangeSpec := { name := "gcmBack", fn := fun _ => fun
  | [d1, d2, d3] => { results := [.lit (.bool true)], args := [d1, d2, d3] }
  | _ => none }
def gcmBackRow : OpenClaim := { program := "ytokhldihfbaeoaa", sum := "67f23186ec4f7cdb5795708e38afb3eb7a52f2dc249b38f903e9cb7a0539b879", func := "strongroom/strongroomlaw04.GcmBack", spec := "gcmBack", apart := false }
def GcmBackSaid : Prop := gcmBackRow.holds Try.pinned (OpenSpec.ofChange gcmBackSpec)

/-- ITS FALSE NEIGHBOUR: 'it returns false'. Refute it at one input. -/
def gcmBackWrong : ChangeSpec := { name := "gcmBack", fn := fun _ => fun
  | [d1, d2, d3] => { results := [.lit (.bool false)], args := [d1, d2, d3] }
  | _ => none }
def GcmBackWrongFalsely : Prop := gcmBackRow.holds Try.pinned (OpenSpec.ofChange gcmBackWrong)

/-- 'strongroomlaw04.GcmParts': WHATEVER THE INPUT: true; the input reads as it did. -/
def gcmPartsSpec : ChangeSpec := { name := "gcmParts", fn := fun _ => fun
  | [d1, d2, d3] => { results := [.lit (.bool true)], args := [d1, d2, d3] }
  | _ => none }
def gcmPartsRow : OpenClaim := { program := "ytokhldihfbaeoaa", sum := "67f23186ec4f7cdb5795708e38afb3eb7a52f2dc249b38f903e9cb7a0539b879", func := "strongroom/strongroomlaw04.GcmParts", spec := "gcmParts", apart := false }
def GcmPartsSaid : Prop := gcmPartsRow.holds Try.pinned (OpenSpec.ofChange gcmPartsSpec)

/-- ITS FALSE NEIGHBOUR: 'it returns false'. Refute it at one input. -/
def gcmPartsWrong : ChangeSpec := { name := "gcmParts", fn := fun _ => fun
  | [d1, d2, d3] => { results := [.lit (.bool false)], args := [d1, d2, d3] }
  | _ => none }
def GcmPartsWrongFalsely : Prop := gcmPartsRow.holds Try.pinned (OpenSpec.ofChange gcmPartsWrong)

/-- 'strongroomlaw04.GcmPieces': WHATEVER THE INPUT: true; the input reads as it did. -/
def gcmPiecesSpec : ChangeSpec := { name := "gcmPieces", fn := fun _ => fun
  | [d1, d2, d3] => { results := [.lit (.bool true)], args := [d1, d2, d3] }
  | _ => none }
def gcmPiecesRow : OpenClaim := { program := "ytokhldihfbaeoaa", sum := "67f23186ec4f7cdb5795708e38afb3eb7a52f2dc249b38f903e9cb7a0539b879", func := "strongroom/strongroomlaw04.GcmPieces", spec := "gcmPieces", apart := false }
def GcmPiecesSaid : Prop := gcmPiecesRow.holds Try.pinned (OpenSpec.ofChange gcmPiecesSpec)

/-- ITS FALSE NEIGHBOUR: 'it returns false'. Refute it at one input. -/
def gcmPiecesWrong : ChangeSpec := { name := "gcmPieces", fn := fun _ => fun
  | [d1, d2, d3] => { results := [.lit (.bool false)], args := [d1, d2, d3] }
  | _ => none }
def GcmPiecesWrongFalsely : Prop := gcmPiecesRow.holds Try.pinned (OpenSpec.ofChange gcmPiecesWrong)

/-- 'strongroomlaw04.GcmLengths': WHATEVER THE INPUT: true; the input reads as it did. -/
def gcmLengthsSpec : ChangeSpec := { name := "gcmLengths", fn := fun _ => fun
  | [d1, d2] => { results := [.lit (.bool true)], args := [d1, d2] }
  | _ => none }
def gcmLengthsRow : OpenClaim := { program := "ytokhldihfbaeoaa", sum := "67f23186ec4f7cdb5795708e38afb3eb7a52f2dc249b38f903e9cb7a0539b879", func := "strongroom/strongroomlaw04.GcmLengths", spec := "gcmLengths", apart := false }
def GcmLengthsSaid : Prop := gcmLengthsRow.holds Try.pinned (OpenSpec.ofChange gcmLengthsSpec)

/-- ITS FALSE NEIGHBOUR: 'it returns false'. Refute it at one input. -/
def gcmLengthsWrong : ChangeSpec := { name := "gcmLengths", fn := fun _ => fun
  | [d1, d2] => { results := [.lit (.bool false)], args := [d1, d2] }
  | _ => none }
def GcmLengthsWrongFalsely : Prop := gcmLengthsRow.holds Try.pinned (OpenSpec.ofChange gcmLengthsWrong)

/- THE SECOND FORM. 'bulk': how many values and letters a reading holds, each counted each time it is reached (what is shared counts as often as it is met; a slice's spare places count too). A statement '..UptoSaid' is the law's where the arguments, and the package variables that the reading takes, are together of bulk at most 1048576: NARROWER than '..Said'. Prove '..Said' where nothing that the law and all that it calls make is longer than what came in: it says more and counts as full. Else prove '..UptoSaid'. A law counts once. -/
mutual
def uptoBulk {H : Type} : DataW H → Nat
  | .lit (.string bytes) => bytes.length + 1
  | .lit _ => 1
  | .nil => 1
  | .ptr d => uptoBulk d + 1
  | .slice elems spare => uptoBulkAll elems + uptoBulkAll spare + 1
  | .agg parts => uptoBulkAll parts + 1
  | .iface _ d => uptoBulk d + 1
  | .map entries => uptoBulkEntries entries + 1
  | .held _ => 1
def uptoBulkAll {H : Type} : List (DataW H) → Nat
  | [] => 0
  | d :: r => uptoBulk d + uptoBulkAll r
def uptoBulkEntries {H : Type} : List (Lit × DataW H) → Nat
  | [] => 0
  | x :: r => uptoBulkEntry x + uptoBulkEntries r
def uptoBulkEntry {H : Type} : Lit × DataW H → Nat
  | (.string bytes, d) => bytes.length + uptoBulk d + 1
  | (_, d) => uptoBulk d + 1
 end
def uptoSmall : (H : Type) → List (DataW H) → Bool := fun _ ds => decide (uptoBulkAll ds ≤ 1048576)
def OpenSpec.upto (s : _root_.Go.ChangeSpec) : _root_.Go.OpenSpec := { _root_.Go.OpenSpec.ofChange s with cond := some uptoSmall }

/-- 'strongroomlaw04.GcmXors', WHERE WHAT IT READS IS OF BULK AT MOST 1048576: true; the input reads as it did. -/
def gcmXorsUptoRow : OpenClaim := { program := "ytokhldihfbaeoaa", sum := "67f23186ec4f7cdb5795708e38afb3eb7a52f2dc249b38f903e9cb7a0539b879", func := "strongroom/strongroomlaw04.GcmXors", spec := "gcmXors", apart := false, narrowed := true }
def GcmXorsUptoSaid : Prop := gcmXorsUptoRow.holds Try.pinned (OpenSpec.upto gcmXorsSpec)

/-- 'strongroomlaw04.GcmTags', WHERE WHAT IT READS IS OF BULK AT MOST 1048576: true; the input reads as it did. -/
def gcmTagsUptoRow : OpenClaim := { program := "ytokhldihfbaeoaa", sum := "67f23186ec4f7cdb5795708e38afb3eb7a52f2dc249b38f903e9cb7a0539b879", func := "strongroom/strongroomlaw04.GcmTags", spec := "gcmTags", apart := false, narrowed := true }
def GcmTagsUptoSaid : Prop := gcmTagsUptoRow.holds Try.pinned (OpenSpec.upto gcmTagsSpec)

/-- 'strongroomlaw04.GcmSeals', WHERE WHAT IT READS IS OF BULK AT MOST 1048576: true; the input reads as it did. -/
def gcmSealsUptoRow : OpenClaim := { program := "ytokhldihfbaeoaa", sum := "67f23186ec4f7cdb5795708e38afb3eb7a52f2dc249b38f903e9cb7a0539b879", func := "strongroom/strongroomlaw04.GcmSeals", spec := "gcmSeals", apart := false, narrowed := true }
def GcmSealsUptoSaid : Prop := gcmSealsUptoRow.holds Try.pinned (OpenSpec.upto gcmSealsSpec)

/-- 'strongroomlaw04.GcmBack', WHERE WHAT IT READS IS OF BULK AT MOST 1048576: true; the input reads as it did. -/
def gcmBackUptoRow : OpenClaim := { program := "ytokhldihfbaeoaa", sum := "67f23186ec4f7cdb5795708e38afb3eb7a52f2dc249b38f903e9cb7a0539b879", func := "strongroom/strongroomlaw04.GcmBack", spec := "gcmBack", apart := false, narrowed := true }
def GcmBackUptoSaid : Prop := gcmBackUptoRow.holds Try.pinned (OpenSpec.upto gcmBackSpec)

/-- 'strongroomlaw04.GcmParts', WHERE WHAT IT READS IS OF BULK AT MOST 1048576: true; the input reads as it did. -/
def gcmPartsUptoRow : OpenClaim := { program := "ytokhldihfbaeoaa", sum := "67f23186ec4f7cdb5795708e38afb3eb7a52f2dc249b38f903e9cb7a0539b879", func := "strongroom/strongroomlaw04.GcmParts", spec := "gcmParts", apart := false, narrowed := true }
def GcmPartsUptoSaid : Prop := gcmPartsUptoRow.holds Try.pinned (OpenSpec.upto gcmPartsSpec)

/-- 'strongroomlaw04.GcmPieces', WHERE WHAT IT READS IS OF BULK AT MOST 1048576: true; the input reads as it did. -/
def gcmPiecesUptoRow : OpenClaim := { program := "ytokhldihfbaeoaa", sum := "67f23186ec4f7cdb5795708e38afb3eb7a52f2dc249b38f903e9cb7a0539b879", func := "strongroom/strongroomlaw04.GcmPieces", spec := "gcmPieces", apart := false, narrowed := true }
def GcmPiecesUptoSaid : Prop := gcmPiecesUptoRow.holds Try.pinned (OpenSpec.upto gcmPiecesSpec)

/-- 'strongroomlaw04.GcmLengths', WHERE WHAT IT READS IS OF BULK AT MOST 1048576: true; the input reads as it did. -/
def gcmLengthsUptoRow : OpenClaim := { program := "ytokhldihfbaeoaa", sum := "67f23186ec4f7cdb5795708e38afb3eb7a52f2dc249b38f903e9cb7a0539b879", func := "strongroom/strongroomlaw04.GcmLengths", spec := "gcmLengths", apart := false, narrowed := true }
def GcmLengthsUptoSaid : Prop := gcmLengthsUptoRow.holds Try.pinned (OpenSpec.upto gcmLengthsSpec)

end Rows
end Go.Proofs.Ytokhldihfbaeoaa
