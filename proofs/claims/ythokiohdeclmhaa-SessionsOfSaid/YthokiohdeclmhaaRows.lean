/-
  No cell of these rows narrows 'for every input' (looked for: loops, veiled, ifaces, maps, wideKeys, modest, calm, conditions, laid).
  DERIVED. THE GIVEN ROWS OF THIS SEAT. 5 by the template 'for every input the law returns true; each argument reads behind the call as it read before'; 0 by the template 'total and deterministic' (their statements: YthokiohdeclmhaaTotals.lean).
  GIVEN WITH THE SEED: the statements are not yours to turn. If you find one false, say at which input.
  Laid BY PROGRAM, IN A SANDBOX (cutbox-rows.mjs): the forced cells as the released guide's own fill.sh prints them over the translation 236b197d60b765e1… (all of the seat's roots in one cut). By AI agents, Wed Nov 11 2026. No macro, syntax, notation, axiom, sorry.
-/
import Derived.Test.YthokiohdeclmhaaChecked
import GoSem.Claim
import GoSem.ClaimJoined
import GoSem.ClaimMapViews
import Derived.JoinedTies
import Derived.KernelRfl
namespace Go.Proofs.Ythokiohdeclmhaa
/- THE CELL 'sum', in the pinned program and in every row, IS THE sha256 OF THE DUMP (.gsa) THAT YthokiohdeclmhaaProg.lean LOADS. Nothing in Lean hashes anything: it is a label: what it is worth is what the hold of that sum in a sandbox is worth. -/
noncomputable def Try.pinned : Pinned := { name := "ythokiohdeclmhaa", sum := "236b197d60b765e14e5e8c8368a744d5b0117604312d8eb09cdec01a47569faa", checked := Try.checked }
namespace Rows
def none {H : Type} : Left H := { results := [], args := [] }

/-- 'strongroomlaw15.SessionsPlay': WHATEVER THE INPUT: true; the input reads as it did. -/
def sessionsPlaySpec : ChangeSpec := { name := "sessionsPlay", fn := fun _ => fun
  | [d] => { results := [.lit (.bool true)], args := [d] }
  | _ => none }
def sessionsPlayRow : OpenClaim := { program := "ythokiohdeclmhaa", sum := "236b197d60b765e14e5e8c8368a744d5b0117604312d8eb09cdec01a47569faa", func := "strongroom/strongroomlaw15.SessionsPlay", spec := "sessionsPlay", inPlace := ["maps.clone"], unfollowed := true, recurses := true, apart := false }
def SessionsPlaySaid : Prop := sessionsPlayRow.holds Try.pinned (OpenSpec.ofChange sessionsPlaySpec)

/-- ITS FALSE NEIGHBOUR: 'it returns false'. Refute it at one input. -/
def sessionsPlayWrong : ChangeSpec := { name := "sessionsPlay", fn := fun _ => fun
  | [d] => { results := [.lit (.bool false)], args := [d] }
  | _ => none }
def SessionsPlayWrongFalsely : Prop := sessionsPlayRow.holds Try.pinned (OpenSpec.ofChange sessionsPlayWrong)

/-- 'strongroomlaw15.SessionsOf': WHATEVER THE INPUT: true; the input reads as it did. -/
def sessionsOfSpec : ChangeSpec := { name := "sessionsOf", fn := fun _ => fun
  | [d1, d2] => { results := [.lit (.bool true)], args := [d1, d2] }
  | _ => none }
def sessionsOfRow : OpenClaim := { program := "ythokiohdeclmhaa", sum := "236b197d60b765e14e5e8c8368a744d5b0117604312d8eb09cdec01a47569faa", func := "strongroom/strongroomlaw15.SessionsOf", spec := "sessionsOf", unfollowed := true, recurses := true, apart := false }
def SessionsOfSaid : Prop := sessionsOfRow.holds Try.pinned (OpenSpec.ofChange sessionsOfSpec)

/-- ITS FALSE NEIGHBOUR: 'it returns false'. Refute it at one input. -/
def sessionsOfWrong : ChangeSpec := { name := "sessionsOf", fn := fun _ => fun
  | [d1, d2] => { results := [.lit (.bool false)], args := [d1, d2] }
  | _ => none }
def SessionsOfWrongFalsely : Prop := sessionsOfRow.holds Try.pinned (OpenSpec.ofChange sessionsOfWrong)

/-- 'strongroomlaw15.SessionsOnce': WHATEVER THE INPUT: true; the input reads as it did. -/
def sessionsOnceSpec : ChangeSpec := { name := "sessionsOnce", fn := fun _ => fun
  | [d] => { results := [.lit (.bool true)], args := [d] }
  | _ => none }
def sessionsOnceRow : OpenClaim := { program := "ythokiohdeclmhaa", sum := "236b197d60b765e14e5e8c8368a744d5b0117604312d8eb09cdec01a47569faa", func := "strongroom/strongroomlaw15.SessionsOnce", spec := "sessionsOnce", apart := false }
def SessionsOnceSaid : Prop := sessionsOnceRow.holds Try.pinned (OpenSpec.ofChange sessionsOnceSpec)

/-- ITS FALSE NEIGHBOUR: 'it returns false'. Refute it at one input. -/
def sessionsOnceWrong : ChangeSpec := { name := "sessionsOnce", fn := fun _ => fun
  | [d] => { results := [.lit (.bool false)], args := [d] }
  | _ => none }
def SessionsOnceWrongFalsely : Prop := sessionsOnceRow.holds Try.pinned (OpenSpec.ofChange sessionsOnceWrong)

/-- 'strongroomlaw15.SessionsFull': WHATEVER THE INPUT: true; the input reads as it did. -/
def sessionsFullSpec : ChangeSpec := { name := "sessionsFull", fn := fun _ => fun
  | [d1, d2] => { results := [.lit (.bool true)], args := [d1, d2] }
  | _ => none }
def sessionsFullRow : OpenClaim := { program := "ythokiohdeclmhaa", sum := "236b197d60b765e14e5e8c8368a744d5b0117604312d8eb09cdec01a47569faa", func := "strongroom/strongroomlaw15.SessionsFull", spec := "sessionsFull", unfollowed := true, recurses := true, apart := false }
def SessionsFullSaid : Prop := sessionsFullRow.holds Try.pinned (OpenSpec.ofChange sessionsFullSpec)

/-- ITS FALSE NEIGHBOUR: 'it returns false'. Refute it at one input. -/
def sessionsFullWrong : ChangeSpec := { name := "sessionsFull", fn := fun _ => fun
  | [d1, d2] => { results := [.lit (.bool false)], args := [d1, d2] }
  | _ => none }
def SessionsFullWrongFalsely : Prop := sessionsFullRow.holds Try.pinned (OpenSpec.ofChange sessionsFullWrong)

/-- 'strongroomlaw15.SessionsApart': WHATEVER THE INPUT: true; the input reads as it did. -/
def sessionsApartSpec : ChangeSpec := { name := "sessionsApart", fn := fun _ => fun
  | [d1, d2, d3] => { results := [.lit (.bool true)], args := [d1, d2, d3] }
  | _ => none }
def sessionsApartRow : OpenClaim := { program := "ythokiohdeclmhaa", sum := "236b197d60b765e14e5e8c8368a744d5b0117604312d8eb09cdec01a47569faa", func := "strongroom/strongroomlaw15.SessionsApart", spec := "sessionsApart", apart := false }
def SessionsApartSaid : Prop := sessionsApartRow.holds Try.pinned (OpenSpec.ofChange sessionsApartSpec)

/-- ITS FALSE NEIGHBOUR: 'it returns false'. Refute it at one input. -/
def sessionsApartWrong : ChangeSpec := { name := "sessionsApart", fn := fun _ => fun
  | [d1, d2, d3] => { results := [.lit (.bool false)], args := [d1, d2, d3] }
  | _ => none }
def SessionsApartWrongFalsely : Prop := sessionsApartRow.holds Try.pinned (OpenSpec.ofChange sessionsApartWrong)

/- THE SECOND FORM. 'bulk': how many values and letters a reading holds, each counted each time it is reached (what is shared counts as often as it is met; a slice's spare places count too). A statement '..UptoSaid' is the law's where the arguments, and the package variables that the reading takes, are together of bulk at most 1048576: NARROWER than '..Said'. Prove '..Said' where nothing that the law and all that it calls make is longer than what came in: it says more and counts as full. Else prove '..UptoSaid'. A law counts once. -/
mutual
def uptoBulk {H : Type} : DataW H → Nat
  | .lit (.string bytes) => bytes.length + 1
  | .lit _ => 1
  | .nil => 1
  | .ptr d => uptoBulk d + 1
  | .slice elems spare => uptoBulkAll elems + uptoBulkAll spare + 1
  | .agg parts => uptoBulkAll parts + 1
  | .iface _ d => uptoBulk d + 1
  | .map entries => uptoBulkEntries entries + 1
  | .held _ => 1
def uptoBulkAll {H : Type} : List (DataW H) → Nat
  | [] => 0
  | d :: r => uptoBulk d + uptoBulkAll r
def uptoBulkEntries {H : Type} : List (Lit × DataW H) → Nat
  | [] => 0
  | x :: r => uptoBulkEntry x + uptoBulkEntries r
def uptoBulkEntry {H : Type} : Lit × DataW H → Nat
  | (.string bytes, d) => bytes.length + uptoBulk d + 1
  | (_, d) => uptoBulk d + 1
 end
def uptoSmall : (H : Type) → List (DataW H) → Bool := fun _ ds => decide (uptoBulkAll ds ≤ 1048576)
def OpenSpec.upto (s : _root_.Go.ChangeSpec) : _root_.Go.OpenSpec := { _root_.Go.OpenSpec.ofChange s with cond := some uptoSmall }

/-- 'strongroomlaw15.SessionsPlay', WHERE WHAT IT READS IS OF BULK AT MOST 1048576: true; the input reads as it did. -/
def sessionsPlayUptoRow : OpenClaim := { program := "ythokiohdeclmhaa", sum := "236b197d60b765e14e5e8c8368a744d5b0117604312d8eb09cdec01a47569faa", func := "strongroom/strongroomlaw15.SessionsPlay", spec := "sessionsPlay", inPlace := ["maps.clone"], unfollowed := true, recurses := true, apart := false, narrowed := true }
def SessionsPlayUptoSaid : Prop := sessionsPlayUptoRow.holds Try.pinned (OpenSpec.upto sessionsPlaySpec)

/-- 'strongroomlaw15.SessionsOf', WHERE WHAT IT READS IS OF BULK AT MOST 1048576: true; the input reads as it did. -/
def sessionsOfUptoRow : OpenClaim := { program := "ythokiohdeclmhaa", sum := "236b197d60b765e14e5e8c8368a744d5b0117604312d8eb09cdec01a47569faa", func := "strongroom/strongroomlaw15.SessionsOf", spec := "sessionsOf", unfollowed := true, recurses := true, apart := false, narrowed := true }
def SessionsOfUptoSaid : Prop := sessionsOfUptoRow.holds Try.pinned (OpenSpec.upto sessionsOfSpec)

/-- 'strongroomlaw15.SessionsOnce', WHERE WHAT IT READS IS OF BULK AT MOST 1048576: true; the input reads as it did. -/
def sessionsOnceUptoRow : OpenClaim := { program := "ythokiohdeclmhaa", sum := "236b197d60b765e14e5e8c8368a744d5b0117604312d8eb09cdec01a47569faa", func := "strongroom/strongroomlaw15.SessionsOnce", spec := "sessionsOnce", apart := false, narrowed := true }
def SessionsOnceUptoSaid : Prop := sessionsOnceUptoRow.holds Try.pinned (OpenSpec.upto sessionsOnceSpec)

/-- 'strongroomlaw15.SessionsFull', WHERE WHAT IT READS IS OF BULK AT MOST 1048576: true; the input reads as it did. -/
def sessionsFullUptoRow : OpenClaim := { program := "ythokiohdeclmhaa", sum := "236b197d60b765e14e5e8c8368a744d5b0117604312d8eb09cdec01a47569faa", func := "strongroom/strongroomlaw15.SessionsFull", spec := "sessionsFull", unfollowed := true, recurses := true, apart := false, narrowed := true }
def SessionsFullUptoSaid : Prop := sessionsFullUptoRow.holds Try.pinned (OpenSpec.upto sessionsFullSpec)

/-- 'strongroomlaw15.SessionsApart', WHERE WHAT IT READS IS OF BULK AT MOST 1048576: true; the input reads as it did. -/
def sessionsApartUptoRow : OpenClaim := { program := "ythokiohdeclmhaa", sum := "236b197d60b765e14e5e8c8368a744d5b0117604312d8eb09cdec01a47569faa", func := "strongroom/strongroomlaw15.SessionsApart", spec := "sessionsApart", apart := false, narrowed := true }
def SessionsApartUptoSaid : Prop := sessionsApartUptoRow.holds Try.pinned (OpenSpec.upto sessionsApartSpec)

end Rows
end Go.Proofs.Ythokiohdeclmhaa
