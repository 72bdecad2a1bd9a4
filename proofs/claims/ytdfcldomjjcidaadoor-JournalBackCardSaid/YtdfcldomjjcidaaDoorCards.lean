/-
  DERIVED. GIVEN WITH THE SEED: THE CARDS: each row of YtdfcldomjjcidaaDoorRows.lean that lists a variable, with what it lists TIED to the program's text (the seventh form; the later family's looks); each row that meets fmt, with fmt's text TOLD by the authors' own Lean function (tested against real Go, not proved from fmt's source: count such statements apart). THE CARD IS WHAT COUNTS. Prove the row's statement (the work); the ties are given (YtdfcldomjjcidaaDoorTie.lean); close each card by the builder's one call (the guide's Derived/Test/ToyasCard.lean, 'card_holds'). Laid BY PROGRAM, IN A SANDBOX (cutbox-door.mjs). By AI agents, Wed Nov 11 2026. No macro, syntax, notation, axiom, sorry.
-/
import Derived.Test.YtdfcldomjjcidaaDoorRows
import GoSem.ClaimSeven
namespace Go.Proofs.YtdfcldomjjcidaaDoor
namespace Rows

/-- THE TIED CARD OF 'strongroomlaw11.JournalFolds'. -/
def journalFoldsCard : Claim7 := { stood := { row := journalFoldsRow, standIns := [], harness := (true, "5889b364d4f73142a1eee81c785a1e33c2d4e046256e7486a45a46bfa8014e10"), looks := true }, kinds := [], alts := [], laidByText := true, laidKinds := [.data], laidTests := true, laidLooks := .later }
def JournalFoldsCardSaid : Prop := Claim7.holds Tryd.pinned (.plain (OpenSpec.ofChange journalFoldsSpec)) journalFoldsCard

/-- THE TIED CARD OF 'strongroomlaw11.JournalBack'. -/
def journalBackCard : Claim7 := { stood := { row := journalBackRow, standIns := [], harness := (true, "5889b364d4f73142a1eee81c785a1e33c2d4e046256e7486a45a46bfa8014e10"), looks := true }, kinds := [], alts := [], laidByText := true, laidKinds := [.data], laidTests := true, laidLooks := .later }
def JournalBackCardSaid : Prop := Claim7.holds Tryd.pinned (.plain (OpenSpec.ofChange journalBackSpec)) journalBackCard

/-- THE TIED CARD OF 'strongroomlaw11.JournalRows'. -/
def journalRowsCard : Claim7 := { stood := { row := journalRowsRow, standIns := [], harness := (true, "5889b364d4f73142a1eee81c785a1e33c2d4e046256e7486a45a46bfa8014e10"), looks := true }, kinds := [], alts := [], laidByText := true, laidKinds := [.data], laidTests := true, laidLooks := .later }
def JournalRowsCardSaid : Prop := Claim7.holds Tryd.pinned (.plain (OpenSpec.ofChange journalRowsSpec)) journalRowsCard

/-- THE TIED CARD OF 'strongroomlaw11.JournalBases'. -/
def journalBasesCard : Claim7 := { stood := { row := journalBasesRow, standIns := [], harness := (true, "5889b364d4f73142a1eee81c785a1e33c2d4e046256e7486a45a46bfa8014e10"), looks := true }, kinds := [], alts := [], laidByText := true, laidKinds := [.data], laidTests := true, laidLooks := .later }
def JournalBasesCardSaid : Prop := Claim7.holds Tryd.pinned (.plain (OpenSpec.ofChange journalBasesSpec)) journalBasesCard

/-- THE SECOND FORM's CARD OF 'strongroomlaw11.JournalFolds'. -/
def journalFoldsUptoCard : Claim7 := { stood := { row := journalFoldsUptoRow, standIns := [], harness := (true, "5889b364d4f73142a1eee81c785a1e33c2d4e046256e7486a45a46bfa8014e10"), looks := true }, kinds := [], alts := [], laidByText := true, laidKinds := [.data], laidTests := true, laidLooks := .later }
def JournalFoldsUptoCardSaid : Prop := Claim7.holds Tryd.pinned (.plain (OpenSpec.upto journalFoldsSpec)) journalFoldsUptoCard

/-- THE SECOND FORM's CARD OF 'strongroomlaw11.JournalBack'. -/
def journalBackUptoCard : Claim7 := { stood := { row := journalBackUptoRow, standIns := [], harness := (true, "5889b364d4f73142a1eee81c785a1e33c2d4e046256e7486a45a46bfa8014e10"), looks := true }, kinds := [], alts := [], laidByText := true, laidKinds := [.data], laidTests := true, laidLooks := .later }
def JournalBackUptoCardSaid : Prop := Claim7.holds Tryd.pinned (.plain (OpenSpec.upto journalBackSpec)) journalBackUptoCard

/-- THE SECOND FORM's CARD OF 'strongroomlaw11.JournalRows'. -/
def journalRowsUptoCard : Claim7 := { stood := { row := journalRowsUptoRow, standIns := [], harness := (true, "5889b364d4f73142a1eee81c785a1e33c2d4e046256e7486a45a46bfa8014e10"), looks := true }, kinds := [], alts := [], laidByText := true, laidKinds := [.data], laidTests := true, laidLooks := .later }
def JournalRowsUptoCardSaid : Prop := Claim7.holds Tryd.pinned (.plain (OpenSpec.upto journalRowsSpec)) journalRowsUptoCard

/-- THE SECOND FORM's CARD OF 'strongroomlaw11.JournalBases'. -/
def journalBasesUptoCard : Claim7 := { stood := { row := journalBasesUptoRow, standIns := [], harness := (true, "5889b364d4f73142a1eee81c785a1e33c2d4e046256e7486a45a46bfa8014e10"), looks := true }, kinds := [], alts := [], laidByText := true, laidKinds := [.data], laidTests := true, laidLooks := .later }
def JournalBasesUptoCardSaid : Prop := Claim7.holds Tryd.pinned (.plain (OpenSpec.upto journalBasesSpec)) journalBasesUptoCard
end Rows
end Go.Proofs.YtdfcldomjjcidaaDoor
