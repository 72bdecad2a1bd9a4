/-
  DERIVED. GIVEN WITH THE SEED: THE CARDS: each row of YtdfcldomjjcidaaGreatDoorRows.lean that lists a variable, with what it lists TIED to the program's text (the seventh form; the later family's looks); each row that meets fmt, with fmt's text TOLD by the authors' own Lean function (tested against real Go, not proved from fmt's source: count such statements apart). THE CARD IS WHAT COUNTS. Prove the row's statement (the work); the ties are given (YtdfcldomjjcidaaGreatDoorTie.lean); close each card by the builder's one call (the guide's Derived/Test/ToyasCard.lean, 'card_holds'). Laid BY PROGRAM, IN A SANDBOX (cutbox-door.mjs). By AI agents, Wed Nov 11 2026. No macro, syntax, notation, axiom, sorry.
-/
import Derived.Test.YtdfcldomjjcidaaGreatDoorRows
import GoSem.ClaimSeven
namespace Go.Proofs.YtdfcldomjjcidaaGreatDoor
namespace Rows

/-- THE TIED CARD OF 'strongroomlaw11.JournalPuts'. -/
def journalPutsCard : Claim7 := { stood := { row := journalPutsRow, standIns := [], harness := (true, "09f55dcde61140d6dae72fbaf94e34c8c1bfce9efb78f4ae230ccecfea8fc9b9"), looks := true }, kinds := [], alts := [], laidByText := true, laidKinds := [.data], laidTests := true, laidLooks := .later }
def JournalPutsCardSaid : Prop := Claim7.holds Tryz.pinned (.plain (OpenSpec.ofChange journalPutsSpec)) journalPutsCard

/-- THE TIED CARD OF 'strongroomlaw11.JournalScans'. -/
def journalScansCard : Claim7 := { stood := { row := journalScansRow, standIns := [], harness := (true, "09f55dcde61140d6dae72fbaf94e34c8c1bfce9efb78f4ae230ccecfea8fc9b9"), looks := true }, kinds := [], alts := [], laidByText := true, laidKinds := [.data], laidTests := true, laidLooks := .later }
def JournalScansCardSaid : Prop := Claim7.holds Tryz.pinned (.plain (OpenSpec.ofChange journalScansSpec)) journalScansCard

/-- THE SECOND FORM's CARD OF 'strongroomlaw11.JournalPuts'. -/
def journalPutsUptoCard : Claim7 := { stood := { row := journalPutsUptoRow, standIns := [], harness := (true, "09f55dcde61140d6dae72fbaf94e34c8c1bfce9efb78f4ae230ccecfea8fc9b9"), looks := true }, kinds := [], alts := [], laidByText := true, laidKinds := [.data], laidTests := true, laidLooks := .later }
def JournalPutsUptoCardSaid : Prop := Claim7.holds Tryz.pinned (.plain (OpenSpec.upto journalPutsSpec)) journalPutsUptoCard

/-- THE SECOND FORM's CARD OF 'strongroomlaw11.JournalScans'. -/
def journalScansUptoCard : Claim7 := { stood := { row := journalScansUptoRow, standIns := [], harness := (true, "09f55dcde61140d6dae72fbaf94e34c8c1bfce9efb78f4ae230ccecfea8fc9b9"), looks := true }, kinds := [], alts := [], laidByText := true, laidKinds := [.data], laidTests := true, laidLooks := .later }
def JournalScansUptoCardSaid : Prop := Claim7.holds Tryz.pinned (.plain (OpenSpec.upto journalScansSpec)) journalScansUptoCard
end Rows
end Go.Proofs.YtdfcldomjjcidaaGreatDoor
