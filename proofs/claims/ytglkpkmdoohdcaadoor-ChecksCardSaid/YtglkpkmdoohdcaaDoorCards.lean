/-
  DERIVED. GIVEN WITH THE SEED: THE CARDS: each row of YtglkpkmdoohdcaaDoorRows.lean that lists a variable, with what it lists TIED to the program's text (the seventh form; the later family's looks); each row that meets fmt, with fmt's text TOLD by the authors' own Lean function (tested against real Go, not proved from fmt's source: count such statements apart). THE CARD IS WHAT COUNTS. Prove the row's statement (the work); the ties are given (YtglkpkmdoohdcaaDoorTie.lean); close each card by the builder's one call (the guide's Derived/Test/ToyasCard.lean, 'card_holds'). Laid BY PROGRAM, IN A SANDBOX (cutbox-door.mjs). By AI agents, Wed Nov 11 2026. No macro, syntax, notation, axiom, sorry.
-/
import Derived.Test.YtglkpkmdoohdcaaDoorRows
import GoSem.ClaimSeven
namespace Go.Proofs.YtglkpkmdoohdcaaDoor
namespace Rows

/-- THE TIED CARD OF 'leaselaw.Checks'. -/
def checksCard : Claim7 := { stood := { row := checksRow, standIns := [], harness := (true, "29b35c28804df42898509bd720884752d6b62c28a7803361d35f83b57840bc6a"), looks := false }, kinds := [], alts := [], laidByText := true, laidKinds := [.data, .data, .data], laidTests := true, laidLooks := .later }
def ChecksCardSaid : Prop := Claim7.holds Tryd.pinned (.plain (OpenSpec.ofChange checksSpec)) checksCard

/-- THE TIED CARD OF 'leaselaw.Erases'. -/
def erasesCard : Claim7 := { stood := { row := erasesRow, standIns := [], harness := (true, "29b35c28804df42898509bd720884752d6b62c28a7803361d35f83b57840bc6a"), looks := false }, kinds := [], alts := [], laidByText := true, laidKinds := [.data, .data, .data], laidTests := true, laidLooks := .later }
def ErasesCardSaid : Prop := Claim7.holds Tryd.pinned (.plain (OpenSpec.ofChange erasesSpec)) erasesCard

/-- THE TIED CARD OF 'leasekeep.Known'. -/
def knownCard : Claim7 := { stood := { row := knownRow, standIns := [], harness := (true, "29b35c28804df42898509bd720884752d6b62c28a7803361d35f83b57840bc6a"), looks := false }, kinds := [], alts := [], laidByText := true, laidKinds := [.data, .data, .data], laidTests := true, laidLooks := .later }
def KnownCardSaid : Prop := Claim7.holds Tryd.pinned (.plain (OpenSpec.ofChange knownSpec)) knownCard

/-- THE SECOND FORM's CARD OF 'leaselaw.Checks'. -/
def checksUptoCard : Claim7 := { stood := { row := checksUptoRow, standIns := [], harness := (true, "29b35c28804df42898509bd720884752d6b62c28a7803361d35f83b57840bc6a"), looks := false }, kinds := [], alts := [], laidByText := true, laidKinds := [.data, .data, .data], laidTests := true, laidLooks := .later }
def ChecksUptoCardSaid : Prop := Claim7.holds Tryd.pinned (.plain (OpenSpec.upto checksSpec)) checksUptoCard

/-- THE SECOND FORM's CARD OF 'leaselaw.Erases'. -/
def erasesUptoCard : Claim7 := { stood := { row := erasesUptoRow, standIns := [], harness := (true, "29b35c28804df42898509bd720884752d6b62c28a7803361d35f83b57840bc6a"), looks := false }, kinds := [], alts := [], laidByText := true, laidKinds := [.data, .data, .data], laidTests := true, laidLooks := .later }
def ErasesUptoCardSaid : Prop := Claim7.holds Tryd.pinned (.plain (OpenSpec.upto erasesSpec)) erasesUptoCard

/-- THE SECOND FORM's CARD OF 'leasekeep.Known'. -/
def knownUptoCard : Claim7 := { stood := { row := knownUptoRow, standIns := [], harness := (true, "29b35c28804df42898509bd720884752d6b62c28a7803361d35f83b57840bc6a"), looks := false }, kinds := [], alts := [], laidByText := true, laidKinds := [.data, .data, .data], laidTests := true, laidLooks := .later }
def KnownUptoCardSaid : Prop := Claim7.holds Tryd.pinned (.plain (OpenSpec.upto knownSpec)) knownUptoCard
end Rows
end Go.Proofs.YtglkpkmdoohdcaaDoor
