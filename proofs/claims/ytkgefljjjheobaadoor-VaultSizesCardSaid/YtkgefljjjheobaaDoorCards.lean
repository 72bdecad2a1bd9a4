/-
  DERIVED. GIVEN WITH THE SEED: THE CARDS: each row of YtkgefljjjheobaaDoorRows.lean that lists a variable, with what it lists TIED to the program's text (the seventh form; the later family's looks); each row that meets fmt, with fmt's text TOLD by the authors' own Lean function (tested against real Go, not proved from fmt's source: count such statements apart). THE CARD IS WHAT COUNTS. Prove the row's statement (the work); the ties are given (YtkgefljjjheobaaDoorTie.lean); close each card by the builder's one call (the guide's Derived/Test/ToyasCard.lean, 'card_holds'). Laid BY PROGRAM, IN A SANDBOX (cutbox-door.mjs). By AI agents, Wed Nov 11 2026. No macro, syntax, notation, axiom, sorry.
-/
import Derived.Test.YtkgefljjjheobaaDoorRows
import GoSem.ClaimSeven
namespace Go.Proofs.YtkgefljjjheobaaDoor
namespace Rows

/-- THE TIED CARD OF 'strongroomlaw12.VaultKeys'. -/
def vaultKeysCard : Claim7 := { stood := { row := vaultKeysRow, standIns := [], harness := (true, "a5dc9dc7a918a1571651ca2c9c03392c72ba9bb44d5af2eeeb3e1f23480c498c"), looks := false }, kinds := [], alts := [], laidByText := true, laidKinds := [.data], laidTests := true, laidLooks := .later }
def VaultKeysCardSaid : Prop := Claim7.holds Tryd.pinned (.plain (OpenSpec.ofChange vaultKeysSpec)) vaultKeysCard

/-- THE TIED CARD OF 'strongroomlaw12.VaultBack'. -/
def vaultBackCard : Claim7 := { stood := { row := vaultBackRow, standIns := [], harness := (true, "a5dc9dc7a918a1571651ca2c9c03392c72ba9bb44d5af2eeeb3e1f23480c498c"), looks := false }, kinds := [], alts := [], laidByText := true, laidKinds := [.data], laidTests := true, laidLooks := .later }
def VaultBackCardSaid : Prop := Claim7.holds Tryd.pinned (.plain (OpenSpec.ofChange vaultBackSpec)) vaultBackCard

/-- THE TIED CARD OF 'strongroomlaw12.VaultApart'. -/
def vaultApartCard : Claim7 := { stood := { row := vaultApartRow, standIns := [], harness := (true, "a5dc9dc7a918a1571651ca2c9c03392c72ba9bb44d5af2eeeb3e1f23480c498c"), looks := false }, kinds := [], alts := [], laidByText := true, laidKinds := [.data], laidTests := true, laidLooks := .later }
def VaultApartCardSaid : Prop := Claim7.holds Tryd.pinned (.plain (OpenSpec.ofChange vaultApartSpec)) vaultApartCard

/-- THE TIED CARD OF 'strongroomlaw12.VaultSizes'. -/
def vaultSizesCard : Claim7 := { stood := { row := vaultSizesRow, standIns := [], harness := (true, "a5dc9dc7a918a1571651ca2c9c03392c72ba9bb44d5af2eeeb3e1f23480c498c"), looks := false }, kinds := [], alts := [], laidByText := true, laidKinds := [.data], laidTests := true, laidLooks := .later }
def VaultSizesCardSaid : Prop := Claim7.holds Tryd.pinned (.plain (OpenSpec.ofChange vaultSizesSpec)) vaultSizesCard

/-- THE SECOND FORM's CARD OF 'strongroomlaw12.VaultKeys'. -/
def vaultKeysUptoCard : Claim7 := { stood := { row := vaultKeysUptoRow, standIns := [], harness := (true, "a5dc9dc7a918a1571651ca2c9c03392c72ba9bb44d5af2eeeb3e1f23480c498c"), looks := false }, kinds := [], alts := [], laidByText := true, laidKinds := [.data], laidTests := true, laidLooks := .later }
def VaultKeysUptoCardSaid : Prop := Claim7.holds Tryd.pinned (.plain (OpenSpec.upto vaultKeysSpec)) vaultKeysUptoCard

/-- THE SECOND FORM's CARD OF 'strongroomlaw12.VaultBack'. -/
def vaultBackUptoCard : Claim7 := { stood := { row := vaultBackUptoRow, standIns := [], harness := (true, "a5dc9dc7a918a1571651ca2c9c03392c72ba9bb44d5af2eeeb3e1f23480c498c"), looks := false }, kinds := [], alts := [], laidByText := true, laidKinds := [.data], laidTests := true, laidLooks := .later }
def VaultBackUptoCardSaid : Prop := Claim7.holds Tryd.pinned (.plain (OpenSpec.upto vaultBackSpec)) vaultBackUptoCard

/-- THE SECOND FORM's CARD OF 'strongroomlaw12.VaultApart'. -/
def vaultApartUptoCard : Claim7 := { stood := { row := vaultApartUptoRow, standIns := [], harness := (true, "a5dc9dc7a918a1571651ca2c9c03392c72ba9bb44d5af2eeeb3e1f23480c498c"), looks := false }, kinds := [], alts := [], laidByText := true, laidKinds := [.data], laidTests := true, laidLooks := .later }
def VaultApartUptoCardSaid : Prop := Claim7.holds Tryd.pinned (.plain (OpenSpec.upto vaultApartSpec)) vaultApartUptoCard

/-- THE SECOND FORM's CARD OF 'strongroomlaw12.VaultSizes'. -/
def vaultSizesUptoCard : Claim7 := { stood := { row := vaultSizesUptoRow, standIns := [], harness := (true, "a5dc9dc7a918a1571651ca2c9c03392c72ba9bb44d5af2eeeb3e1f23480c498c"), looks := false }, kinds := [], alts := [], laidByText := true, laidKinds := [.data], laidTests := true, laidLooks := .later }
def VaultSizesUptoCardSaid : Prop := Claim7.holds Tryd.pinned (.plain (OpenSpec.upto vaultSizesSpec)) vaultSizesUptoCard
end Rows
end Go.Proofs.YtkgefljjjheobaaDoor
