/-
  No cell of these rows narrows 'for every input' (looked for: loops, veiled, ifaces, maps, wideKeys, modest, calm, conditions, laid).
  DERIVED. THE GIVEN ROWS OF THIS SEAT. 5 by the template 'for every input the law returns true; each argument reads behind the call as it read before'; 0 by the template 'total and deterministic' (their statements: YtabchkcieddhpaaTotals.lean).
  GIVEN WITH THE SEED: the statements are not yours to turn. If you find one false, say at which input.
  Laid BY PROGRAM, IN A SANDBOX (cutbox-rows.mjs): the forced cells as the released guide's own fill.sh prints them over the translation 434f57e16a13b625… (all of the seat's roots in one cut). By AI agents, Wed Nov 11 2026. No macro, syntax, notation, axiom, sorry.
-/
import Derived.Test.YtabchkcieddhpaaChecked
import GoSem.Claim
import GoSem.ClaimJoined
import GoSem.ClaimMapViews
import Derived.JoinedTies
import Derived.KernelRfl
namespace Go.Proofs.Ytabchkcieddhpaa
/- THE CELL 'sum', in the pinned program and in every row, IS THE sha256 OF THE DUMP (.gsa) THAT YtabchkcieddhpaaProg.lean LOADS. Nothing in Lean hashes anything: it is a label: what it is worth is what the hold of that sum in a sandbox is worth. -/
noncomputable def Try.pinned : Pinned := { name := "ytabchkcieddhpaa", sum := "434f57e16a13b6251add827acde83e2819a2a9148bc38cfdfb248138b00a6ac8", checked := Try.checked }
namespace Rows
def none {H : Type} : Left H := { results := [], args := [] }

/-- 'strongroomlaw13.KeyringPlays': WHATEVER THE INPUT: true; the input reads as it did. -/
def keyringPlaysSpec : ChangeSpec := { name := "keyringPlays", fn := fun _ => fun
  | [d] => { results := [.lit (.bool true)], args := [d] }
  | _ => none }
def keyringPlaysRow : OpenClaim := { program := "ytabchkcieddhpaa", sum := "434f57e16a13b6251add827acde83e2819a2a9148bc38cfdfb248138b00a6ac8", func := "strongroom/strongroomlaw13.KeyringPlays", spec := "keyringPlays", unfollowed := true, recurses := true, apart := false }
def KeyringPlaysSaid : Prop := keyringPlaysRow.holds Try.pinned (OpenSpec.ofChange keyringPlaysSpec)

/-- ITS FALSE NEIGHBOUR: 'it returns false'. Refute it at one input. -/
def keyringPlaysWrong : ChangeSpec := { name := "keyringPlays", fn := fun _ => fun
  | [d] => { results := [.lit (.bool false)], args := [d] }
  | _ => none }
def KeyringPlaysWrongFalsely : Prop := keyringPlaysRow.holds Try.pinned (OpenSpec.ofChange keyringPlaysWrong)

/-- 'strongroomlaw13.KeyringOf': WHATEVER THE INPUT: true; the input reads as it did. -/
def keyringOfSpec : ChangeSpec := { name := "keyringOf", fn := fun _ => fun
  | [d] => { results := [.lit (.bool true)], args := [d] }
  | _ => none }
def keyringOfRow : OpenClaim := { program := "ytabchkcieddhpaa", sum := "434f57e16a13b6251add827acde83e2819a2a9148bc38cfdfb248138b00a6ac8", func := "strongroom/strongroomlaw13.KeyringOf", spec := "keyringOf", unfollowed := true, recurses := true, apart := false }
def KeyringOfSaid : Prop := keyringOfRow.holds Try.pinned (OpenSpec.ofChange keyringOfSpec)

/-- ITS FALSE NEIGHBOUR: 'it returns false'. Refute it at one input. -/
def keyringOfWrong : ChangeSpec := { name := "keyringOf", fn := fun _ => fun
  | [d] => { results := [.lit (.bool false)], args := [d] }
  | _ => none }
def KeyringOfWrongFalsely : Prop := keyringOfRow.holds Try.pinned (OpenSpec.ofChange keyringOfWrong)

/-- 'strongroomlaw13.KeyringStays': WHATEVER THE INPUT: true; the input reads as it did. -/
def keyringStaysSpec : ChangeSpec := { name := "keyringStays", fn := fun _ => fun
  | [d] => { results := [.lit (.bool true)], args := [d] }
  | _ => none }
def keyringStaysRow : OpenClaim := { program := "ytabchkcieddhpaa", sum := "434f57e16a13b6251add827acde83e2819a2a9148bc38cfdfb248138b00a6ac8", func := "strongroom/strongroomlaw13.KeyringStays", spec := "keyringStays", unfollowed := true, recurses := true, apart := false }
def KeyringStaysSaid : Prop := keyringStaysRow.holds Try.pinned (OpenSpec.ofChange keyringStaysSpec)

/-- ITS FALSE NEIGHBOUR: 'it returns false'. Refute it at one input. -/
def keyringStaysWrong : ChangeSpec := { name := "keyringStays", fn := fun _ => fun
  | [d] => { results := [.lit (.bool false)], args := [d] }
  | _ => none }
def KeyringStaysWrongFalsely : Prop := keyringStaysRow.holds Try.pinned (OpenSpec.ofChange keyringStaysWrong)

/-- 'strongroomlaw13.KeyringFull': WHATEVER THE INPUT: true; the input reads as it did. -/
def keyringFullSpec : ChangeSpec := { name := "keyringFull", fn := fun _ => fun
  | [d1, d2, d3] => { results := [.lit (.bool true)], args := [d1, d2, d3] }
  | _ => none }
def keyringFullRow : OpenClaim := { program := "ytabchkcieddhpaa", sum := "434f57e16a13b6251add827acde83e2819a2a9148bc38cfdfb248138b00a6ac8", func := "strongroom/strongroomlaw13.KeyringFull", spec := "keyringFull", unfollowed := true, recurses := true, apart := false }
def KeyringFullSaid : Prop := keyringFullRow.holds Try.pinned (OpenSpec.ofChange keyringFullSpec)

/-- ITS FALSE NEIGHBOUR: 'it returns false'. Refute it at one input. -/
def keyringFullWrong : ChangeSpec := { name := "keyringFull", fn := fun _ => fun
  | [d1, d2, d3] => { results := [.lit (.bool false)], args := [d1, d2, d3] }
  | _ => none }
def KeyringFullWrongFalsely : Prop := keyringFullRow.holds Try.pinned (OpenSpec.ofChange keyringFullWrong)

/-- 'strongroomlaw13.KeyringOff': WHATEVER THE INPUT: true; the input reads as it did. -/
def keyringOffSpec : ChangeSpec := { name := "keyringOff", fn := fun _ => fun
  | [d1, d2] => { results := [.lit (.bool true)], args := [d1, d2] }
  | _ => none }
def keyringOffRow : OpenClaim := { program := "ytabchkcieddhpaa", sum := "434f57e16a13b6251add827acde83e2819a2a9148bc38cfdfb248138b00a6ac8", func := "strongroom/strongroomlaw13.KeyringOff", spec := "keyringOff", unfollowed := true, recurses := true, apart := false }
def KeyringOffSaid : Prop := keyringOffRow.holds Try.pinned (OpenSpec.ofChange keyringOffSpec)

/-- ITS FALSE NEIGHBOUR: 'it returns false'. Refute it at one input. -/
def keyringOffWrong : ChangeSpec := { name := "keyringOff", fn := fun _ => fun
  | [d1, d2] => { results := [.lit (.bool false)], args := [d1, d2] }
  | _ => none }
def KeyringOffWrongFalsely : Prop := keyringOffRow.holds Try.pinned (OpenSpec.ofChange keyringOffWrong)

/- THE SECOND FORM. 'bulk': how many values and letters a reading holds, each counted each time it is reached (what is shared counts as often as it is met; a slice's spare places count too). A statement '..UptoSaid' is the law's where the arguments, and the package variables that the reading takes, are together of bulk at most 1048576: NARROWER than '..Said'. Prove '..Said' where nothing that the law and all that it calls make is longer than what came in: it says more and counts as full. Else prove '..UptoSaid'. A law counts once. -/
mutual
def uptoBulk {H : Type} : DataW H → Nat
  | .lit (.string bytes) => bytes.length + 1
  | .lit _ => 1
  | .nil => 1
  | .ptr d => uptoBulk d + 1
  | .slice elems spare => uptoBulkAll elems + uptoBulkAll spare + 1
  | .agg parts => uptoBulkAll parts + 1
  | .iface _ d => uptoBulk d + 1
  | .map entries => uptoBulkEntries entries + 1
  | .held _ => 1
def uptoBulkAll {H : Type} : List (DataW H) → Nat
  | [] => 0
  | d :: r => uptoBulk d + uptoBulkAll r
def uptoBulkEntries {H : Type} : List (Lit × DataW H) → Nat
  | [] => 0
  | x :: r => uptoBulkEntry x + uptoBulkEntries r
def uptoBulkEntry {H : Type} : Lit × DataW H → Nat
  | (.string bytes, d) => bytes.length + uptoBulk d + 1
  | (_, d) => uptoBulk d + 1
 end
def uptoSmall : (H : Type) → List (DataW H) → Bool := fun _ ds => decide (uptoBulkAll ds ≤ 1048576)
def OpenSpec.upto (s : _root_.Go.ChangeSpec) : _root_.Go.OpenSpec := { _root_.Go.OpenSpec.ofChange s with cond := some uptoSmall }

/-- 'strongroomlaw13.KeyringPlays', WHERE WHAT IT READS IS OF BULK AT MOST 1048576: true; the input reads as it did. -/
def keyringPlaysUptoRow : OpenClaim := { program := "ytabchkcieddhpaa", sum := "434f57e16a13b6251add827acde83e2819a2a9148bc38cfdfb248138b00a6ac8", func := "strongroom/strongroomlaw13.KeyringPlays", spec := "keyringPlays", unfollowed := true, recurses := true, apart := false, narrowed := true }
def KeyringPlaysUptoSaid : Prop := keyringPlaysUptoRow.holds Try.pinned (OpenSpec.upto keyringPlaysSpec)

/-- 'strongroomlaw13.KeyringOf', WHERE WHAT IT READS IS OF BULK AT MOST 1048576: true; the input reads as it did. -/
def keyringOfUptoRow : OpenClaim := { program := "ytabchkcieddhpaa", sum := "434f57e16a13b6251add827acde83e2819a2a9148bc38cfdfb248138b00a6ac8", func := "strongroom/strongroomlaw13.KeyringOf", spec := "keyringOf", unfollowed := true, recurses := true, apart := false, narrowed := true }
def KeyringOfUptoSaid : Prop := keyringOfUptoRow.holds Try.pinned (OpenSpec.upto keyringOfSpec)

/-- 'strongroomlaw13.KeyringStays', WHERE WHAT IT READS IS OF BULK AT MOST 1048576: true; the input reads as it did. -/
def keyringStaysUptoRow : OpenClaim := { program := "ytabchkcieddhpaa", sum := "434f57e16a13b6251add827acde83e2819a2a9148bc38cfdfb248138b00a6ac8", func := "strongroom/strongroomlaw13.KeyringStays", spec := "keyringStays", unfollowed := true, recurses := true, apart := false, narrowed := true }
def KeyringStaysUptoSaid : Prop := keyringStaysUptoRow.holds Try.pinned (OpenSpec.upto keyringStaysSpec)

/-- 'strongroomlaw13.KeyringFull', WHERE WHAT IT READS IS OF BULK AT MOST 1048576: true; the input reads as it did. -/
def keyringFullUptoRow : OpenClaim := { program := "ytabchkcieddhpaa", sum := "434f57e16a13b6251add827acde83e2819a2a9148bc38cfdfb248138b00a6ac8", func := "strongroom/strongroomlaw13.KeyringFull", spec := "keyringFull", unfollowed := true, recurses := true, apart := false, narrowed := true }
def KeyringFullUptoSaid : Prop := keyringFullUptoRow.holds Try.pinned (OpenSpec.upto keyringFullSpec)

/-- 'strongroomlaw13.KeyringOff', WHERE WHAT IT READS IS OF BULK AT MOST 1048576: true; the input reads as it did. -/
def keyringOffUptoRow : OpenClaim := { program := "ytabchkcieddhpaa", sum := "434f57e16a13b6251add827acde83e2819a2a9148bc38cfdfb248138b00a6ac8", func := "strongroom/strongroomlaw13.KeyringOff", spec := "keyringOff", unfollowed := true, recurses := true, apart := false, narrowed := true }
def KeyringOffUptoSaid : Prop := keyringOffUptoRow.holds Try.pinned (OpenSpec.upto keyringOffSpec)

end Rows
end Go.Proofs.Ytabchkcieddhpaa
