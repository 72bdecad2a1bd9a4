/-
  DERIVED. GIVEN WITH THE SEED: THE CARDS: each row of YtjggnbncpjoooaaDoorRows.lean that lists a variable, with what it lists TIED to the program's text (the seventh form; the later family's looks); each row that meets fmt, with fmt's text TOLD by the authors' own Lean function (tested against real Go, not proved from fmt's source: count such statements apart). THE CARD IS WHAT COUNTS. Prove the row's statement (the work); the ties are given (YtjggnbncpjoooaaDoorTie.lean); close each card by the builder's one call (the guide's Derived/Test/ToyasCard.lean, 'card_holds'). Laid BY PROGRAM, IN A SANDBOX (cutbox-door.mjs). By AI agents, Wed Nov 11 2026. No macro, syntax, notation, axiom, sorry.
-/
import Derived.Test.YtjggnbncpjoooaaDoorRows
import GoSem.ClaimSeven
namespace Go.Proofs.YtjggnbncpjoooaaDoor
namespace Rows

/-- THE TIED CARD OF 'strongroomlaw07.DrbgPlays'. -/
def drbgPlaysCard : Claim7 := { stood := { row := drbgPlaysRow, standIns := [], harness := (true, "4642ee307c21727693058ea21c92daa3e951da6297322ad112cfe872a294e37d"), looks := false }, kinds := [], alts := [], laidByText := true, laidKinds := [.data], laidTests := true, laidLooks := .later }
def DrbgPlaysCardSaid : Prop := Claim7.holds Tryd.pinned (.plain (OpenSpec.ofChange drbgPlaysSpec)) drbgPlaysCard

/-- THE TIED CARD OF 'strongroomlaw07.DrbgOf'. -/
def drbgOfCard : Claim7 := { stood := { row := drbgOfRow, standIns := [], harness := (true, "4642ee307c21727693058ea21c92daa3e951da6297322ad112cfe872a294e37d"), looks := false }, kinds := [], alts := [], laidByText := true, laidKinds := [.data], laidTests := true, laidLooks := .later }
def DrbgOfCardSaid : Prop := Claim7.holds Tryd.pinned (.plain (OpenSpec.ofChange drbgOfSpec)) drbgOfCard

/-- THE TIED CARD OF 'strongroomlaw07.DrbgBytes'. -/
def drbgBytesCard : Claim7 := { stood := { row := drbgBytesRow, standIns := [], harness := (true, "4642ee307c21727693058ea21c92daa3e951da6297322ad112cfe872a294e37d"), looks := false }, kinds := [], alts := [], laidByText := true, laidKinds := [.data], laidTests := true, laidLooks := .later }
def DrbgBytesCardSaid : Prop := Claim7.holds Tryd.pinned (.plain (OpenSpec.ofChange drbgBytesSpec)) drbgBytesCard

/-- THE TIED CARD OF 'strongroomlaw07.DrbgSeeds'. -/
def drbgSeedsCard : Claim7 := { stood := { row := drbgSeedsRow, standIns := [], harness := (true, "4642ee307c21727693058ea21c92daa3e951da6297322ad112cfe872a294e37d"), looks := false }, kinds := [], alts := [], laidByText := true, laidKinds := [.data], laidTests := true, laidLooks := .later }
def DrbgSeedsCardSaid : Prop := Claim7.holds Tryd.pinned (.plain (OpenSpec.ofChange drbgSeedsSpec)) drbgSeedsCard

/-- THE TIED CARD OF 'strongroomlaw07.DrbgRefuses'. -/
def drbgRefusesCard : Claim7 := { stood := { row := drbgRefusesRow, standIns := [], harness := (true, "4642ee307c21727693058ea21c92daa3e951da6297322ad112cfe872a294e37d"), looks := false }, kinds := [], alts := [], laidByText := true, laidKinds := [.data], laidTests := true, laidLooks := .later }
def DrbgRefusesCardSaid : Prop := Claim7.holds Tryd.pinned (.plain (OpenSpec.ofChange drbgRefusesSpec)) drbgRefusesCard

/-- THE SECOND FORM's CARD OF 'strongroomlaw07.DrbgPlays'. -/
def drbgPlaysUptoCard : Claim7 := { stood := { row := drbgPlaysUptoRow, standIns := [], harness := (true, "4642ee307c21727693058ea21c92daa3e951da6297322ad112cfe872a294e37d"), looks := false }, kinds := [], alts := [], laidByText := true, laidKinds := [.data], laidTests := true, laidLooks := .later }
def DrbgPlaysUptoCardSaid : Prop := Claim7.holds Tryd.pinned (.plain (OpenSpec.upto drbgPlaysSpec)) drbgPlaysUptoCard

/-- THE SECOND FORM's CARD OF 'strongroomlaw07.DrbgOf'. -/
def drbgOfUptoCard : Claim7 := { stood := { row := drbgOfUptoRow, standIns := [], harness := (true, "4642ee307c21727693058ea21c92daa3e951da6297322ad112cfe872a294e37d"), looks := false }, kinds := [], alts := [], laidByText := true, laidKinds := [.data], laidTests := true, laidLooks := .later }
def DrbgOfUptoCardSaid : Prop := Claim7.holds Tryd.pinned (.plain (OpenSpec.upto drbgOfSpec)) drbgOfUptoCard

/-- THE SECOND FORM's CARD OF 'strongroomlaw07.DrbgBytes'. -/
def drbgBytesUptoCard : Claim7 := { stood := { row := drbgBytesUptoRow, standIns := [], harness := (true, "4642ee307c21727693058ea21c92daa3e951da6297322ad112cfe872a294e37d"), looks := false }, kinds := [], alts := [], laidByText := true, laidKinds := [.data], laidTests := true, laidLooks := .later }
def DrbgBytesUptoCardSaid : Prop := Claim7.holds Tryd.pinned (.plain (OpenSpec.upto drbgBytesSpec)) drbgBytesUptoCard

/-- THE SECOND FORM's CARD OF 'strongroomlaw07.DrbgSeeds'. -/
def drbgSeedsUptoCard : Claim7 := { stood := { row := drbgSeedsUptoRow, standIns := [], harness := (true, "4642ee307c21727693058ea21c92daa3e951da6297322ad112cfe872a294e37d"), looks := false }, kinds := [], alts := [], laidByText := true, laidKinds := [.data], laidTests := true, laidLooks := .later }
def DrbgSeedsUptoCardSaid : Prop := Claim7.holds Tryd.pinned (.plain (OpenSpec.upto drbgSeedsSpec)) drbgSeedsUptoCard

/-- THE SECOND FORM's CARD OF 'strongroomlaw07.DrbgRefuses'. -/
def drbgRefusesUptoCard : Claim7 := { stood := { row := drbgRefusesUptoRow, standIns := [], harness := (true, "4642ee307c21727693058ea21c92daa3e951da6297322ad112cfe872a294e37d"), looks := false }, kinds := [], alts := [], laidByText := true, laidKinds := [.data], laidTests := true, laidLooks := .later }
def DrbgRefusesUptoCardSaid : Prop := Claim7.holds Tryd.pinned (.plain (OpenSpec.upto drbgRefusesSpec)) drbgRefusesUptoCard
end Rows
end Go.Proofs.YtjggnbncpjoooaaDoor
