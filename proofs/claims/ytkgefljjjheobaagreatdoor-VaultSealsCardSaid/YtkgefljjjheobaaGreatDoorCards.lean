/-
  DERIVED. GIVEN WITH THE SEED: THE CARDS: each row of YtkgefljjjheobaaGreatDoorRows.lean that lists a variable, with what it lists TIED to the program's text (the seventh form; the later family's looks); each row that meets fmt, with fmt's text TOLD by the authors' own Lean function (tested against real Go, not proved from fmt's source: count such statements apart). THE CARD IS WHAT COUNTS. Prove the row's statement (the work); the ties are given (YtkgefljjjheobaaGreatDoorTie.lean); close each card by the builder's one call (the guide's Derived/Test/ToyasCard.lean, 'card_holds'). Laid BY PROGRAM, IN A SANDBOX (cutbox-door.mjs). By AI agents, Wed Nov 11 2026. No macro, syntax, notation, axiom, sorry.
-/
import Derived.Test.YtkgefljjjheobaaGreatDoorRows
import GoSem.ClaimSeven
namespace Go.Proofs.YtkgefljjjheobaaGreatDoor
namespace Rows

/-- THE TIED CARD OF 'strongroomlaw12.VaultSeals'. -/
def vaultSealsCard : Claim7 := { stood := { row := vaultSealsRow, standIns := [], harness := (true, "dcede5bd6398f0a74c78817b34d6aed26750e62af6770f7932c52fc4d4160b97"), looks := false }, kinds := [], alts := [], laidByText := true, laidKinds := [.data], laidTests := true, laidLooks := .later }
def VaultSealsCardSaid : Prop := Claim7.holds Tryz.pinned (.plain (OpenSpec.ofChange vaultSealsSpec)) vaultSealsCard

/-- THE SECOND FORM's CARD OF 'strongroomlaw12.VaultSeals'. -/
def vaultSealsUptoCard : Claim7 := { stood := { row := vaultSealsUptoRow, standIns := [], harness := (true, "dcede5bd6398f0a74c78817b34d6aed26750e62af6770f7932c52fc4d4160b97"), looks := false }, kinds := [], alts := [], laidByText := true, laidKinds := [.data], laidTests := true, laidLooks := .later }
def VaultSealsUptoCardSaid : Prop := Claim7.holds Tryz.pinned (.plain (OpenSpec.upto vaultSealsSpec)) vaultSealsUptoCard
end Rows
end Go.Proofs.YtkgefljjjheobaaGreatDoor
