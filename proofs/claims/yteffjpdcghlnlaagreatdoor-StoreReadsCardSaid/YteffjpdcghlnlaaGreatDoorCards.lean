/-
  DERIVED. GIVEN WITH THE SEED: THE CARDS: each row of YteffjpdcghlnlaaGreatDoorRows.lean that lists a variable, with what it lists TIED to the program's text (the seventh form; the later family's looks); each row that meets fmt, with fmt's text TOLD by the authors' own Lean function (tested against real Go, not proved from fmt's source: count such statements apart). THE CARD IS WHAT COUNTS. Prove the row's statement (the work); the ties are given (YteffjpdcghlnlaaGreatDoorTie.lean); close each card by the builder's one call (the guide's Derived/Test/ToyasCard.lean, 'card_holds'). Laid BY PROGRAM, IN A SANDBOX (cutbox-door.mjs). By AI agents, Wed Nov 11 2026. No macro, syntax, notation, axiom, sorry.
-/
import Derived.Test.YteffjpdcghlnlaaGreatDoorRows
import GoSem.ClaimSeven
namespace Go.Proofs.YteffjpdcghlnlaaGreatDoor
namespace Rows

/-- THE TIED CARD OF 'strongroomlaw16.StorePlays'. -/
def storePlaysCard : Claim7 := { stood := { row := storePlaysRow, standIns := [], harness := (true, "ef13907c1c22fa2efd37217ce8d311b19c0fecaf9c64df184703d01d535a1dd6"), looks := true }, kinds := [], alts := [], laidByText := true, laidKinds := [.data], laidTests := true, laidLooks := .later }
def StorePlaysCardSaid : Prop := Claim7.holds Tryz.pinned (.plain (OpenSpec.ofChange storePlaysSpec)) storePlaysCard

/-- THE TIED CARD OF 'strongroomlaw16.StoreReads'. -/
def storeReadsCard : Claim7 := { stood := { row := storeReadsRow, standIns := [], harness := (true, "ef13907c1c22fa2efd37217ce8d311b19c0fecaf9c64df184703d01d535a1dd6"), looks := true }, kinds := [], alts := [], laidByText := true, laidKinds := [.data], laidTests := true, laidLooks := .later }
def StoreReadsCardSaid : Prop := Claim7.holds Tryz.pinned (.plain (OpenSpec.ofChange storeReadsSpec)) storeReadsCard

/-- THE TIED CARD OF 'strongroomlaw16.StoreBack'. -/
def storeBackCard : Claim7 := { stood := { row := storeBackRow, standIns := [], harness := (true, "ef13907c1c22fa2efd37217ce8d311b19c0fecaf9c64df184703d01d535a1dd6"), looks := true }, kinds := [], alts := [], laidByText := true, laidKinds := [.data], laidTests := true, laidLooks := .later }
def StoreBackCardSaid : Prop := Claim7.holds Tryz.pinned (.plain (OpenSpec.ofChange storeBackSpec)) storeBackCard

/-- THE TIED CARD OF 'strongroomlaw16.StoreAgain'. -/
def storeAgainCard : Claim7 := { stood := { row := storeAgainRow, standIns := [], harness := (true, "ef13907c1c22fa2efd37217ce8d311b19c0fecaf9c64df184703d01d535a1dd6"), looks := true }, kinds := [], alts := [], laidByText := true, laidKinds := [.data], laidTests := true, laidLooks := .later }
def StoreAgainCardSaid : Prop := Claim7.holds Tryz.pinned (.plain (OpenSpec.ofChange storeAgainSpec)) storeAgainCard

/-- THE TIED CARD OF 'strongroomlaw16.StoreRefuses'. -/
def storeRefusesCard : Claim7 := { stood := { row := storeRefusesRow, standIns := [], harness := (true, "ef13907c1c22fa2efd37217ce8d311b19c0fecaf9c64df184703d01d535a1dd6"), looks := true }, kinds := [], alts := [], laidByText := true, laidKinds := [.data], laidTests := true, laidLooks := .later }
def StoreRefusesCardSaid : Prop := Claim7.holds Tryz.pinned (.plain (OpenSpec.ofChange storeRefusesSpec)) storeRefusesCard

/-- THE TIED CARD OF 'strongroomlaw16.StoreMaterials'. -/
def storeMaterialsCard : Claim7 := { stood := { row := storeMaterialsRow, standIns := [], harness := (true, "ef13907c1c22fa2efd37217ce8d311b19c0fecaf9c64df184703d01d535a1dd6"), looks := true }, kinds := [], alts := [], laidByText := true, laidKinds := [.data], laidTests := true, laidLooks := .later }
def StoreMaterialsCardSaid : Prop := Claim7.holds Tryz.pinned (.plain (OpenSpec.ofChange storeMaterialsSpec)) storeMaterialsCard

/-- THE TIED CARD OF 'strongroomlaw16.StoreSessions'. -/
def storeSessionsCard : Claim7 := { stood := { row := storeSessionsRow, standIns := [], harness := (true, "ef13907c1c22fa2efd37217ce8d311b19c0fecaf9c64df184703d01d535a1dd6"), looks := true }, kinds := [], alts := [], laidByText := true, laidKinds := [.data], laidTests := true, laidLooks := .later }
def StoreSessionsCardSaid : Prop := Claim7.holds Tryz.pinned (.plain (OpenSpec.ofChange storeSessionsSpec)) storeSessionsCard

/-- THE SECOND FORM's CARD OF 'strongroomlaw16.StorePlays'. -/
def storePlaysUptoCard : Claim7 := { stood := { row := storePlaysUptoRow, standIns := [], harness := (true, "ef13907c1c22fa2efd37217ce8d311b19c0fecaf9c64df184703d01d535a1dd6"), looks := true }, kinds := [], alts := [], laidByText := true, laidKinds := [.data], laidTests := true, laidLooks := .later }
def StorePlaysUptoCardSaid : Prop := Claim7.holds Tryz.pinned (.plain (OpenSpec.upto storePlaysSpec)) storePlaysUptoCard

/-- THE SECOND FORM's CARD OF 'strongroomlaw16.StoreReads'. -/
def storeReadsUptoCard : Claim7 := { stood := { row := storeReadsUptoRow, standIns := [], harness := (true, "ef13907c1c22fa2efd37217ce8d311b19c0fecaf9c64df184703d01d535a1dd6"), looks := true }, kinds := [], alts := [], laidByText := true, laidKinds := [.data], laidTests := true, laidLooks := .later }
def StoreReadsUptoCardSaid : Prop := Claim7.holds Tryz.pinned (.plain (OpenSpec.upto storeReadsSpec)) storeReadsUptoCard

/-- THE SECOND FORM's CARD OF 'strongroomlaw16.StoreBack'. -/
def storeBackUptoCard : Claim7 := { stood := { row := storeBackUptoRow, standIns := [], harness := (true, "ef13907c1c22fa2efd37217ce8d311b19c0fecaf9c64df184703d01d535a1dd6"), looks := true }, kinds := [], alts := [], laidByText := true, laidKinds := [.data], laidTests := true, laidLooks := .later }
def StoreBackUptoCardSaid : Prop := Claim7.holds Tryz.pinned (.plain (OpenSpec.upto storeBackSpec)) storeBackUptoCard

/-- THE SECOND FORM's CARD OF 'strongroomlaw16.StoreAgain'. -/
def storeAgainUptoCard : Claim7 := { stood := { row := storeAgainUptoRow, standIns := [], harness := (true, "ef13907c1c22fa2efd37217ce8d311b19c0fecaf9c64df184703d01d535a1dd6"), looks := true }, kinds := [], alts := [], laidByText := true, laidKinds := [.data], laidTests := true, laidLooks := .later }
def StoreAgainUptoCardSaid : Prop := Claim7.holds Tryz.pinned (.plain (OpenSpec.upto storeAgainSpec)) storeAgainUptoCard

/-- THE SECOND FORM's CARD OF 'strongroomlaw16.StoreRefuses'. -/
def storeRefusesUptoCard : Claim7 := { stood := { row := storeRefusesUptoRow, standIns := [], harness := (true, "ef13907c1c22fa2efd37217ce8d311b19c0fecaf9c64df184703d01d535a1dd6"), looks := true }, kinds := [], alts := [], laidByText := true, laidKinds := [.data], laidTests := true, laidLooks := .later }
def StoreRefusesUptoCardSaid : Prop := Claim7.holds Tryz.pinned (.plain (OpenSpec.upto storeRefusesSpec)) storeRefusesUptoCard

/-- THE SECOND FORM's CARD OF 'strongroomlaw16.StoreMaterials'. -/
def storeMaterialsUptoCard : Claim7 := { stood := { row := storeMaterialsUptoRow, standIns := [], harness := (true, "ef13907c1c22fa2efd37217ce8d311b19c0fecaf9c64df184703d01d535a1dd6"), looks := true }, kinds := [], alts := [], laidByText := true, laidKinds := [.data], laidTests := true, laidLooks := .later }
def StoreMaterialsUptoCardSaid : Prop := Claim7.holds Tryz.pinned (.plain (OpenSpec.upto storeMaterialsSpec)) storeMaterialsUptoCard

/-- THE SECOND FORM's CARD OF 'strongroomlaw16.StoreSessions'. -/
def storeSessionsUptoCard : Claim7 := { stood := { row := storeSessionsUptoRow, standIns := [], harness := (true, "ef13907c1c22fa2efd37217ce8d311b19c0fecaf9c64df184703d01d535a1dd6"), looks := true }, kinds := [], alts := [], laidByText := true, laidKinds := [.data], laidTests := true, laidLooks := .later }
def StoreSessionsUptoCardSaid : Prop := Claim7.holds Tryz.pinned (.plain (OpenSpec.upto storeSessionsSpec)) storeSessionsUptoCard
end Rows
end Go.Proofs.YteffjpdcghlnlaaGreatDoor
