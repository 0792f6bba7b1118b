/-
  DERIVED. GIVEN WITH THE SEED: THE CARDS: each row of YtpicaknklgccoaaGreatDoorRows.lean that lists a variable, with what it lists TIED to the program's text (the seventh form; the later family's looks); each row that meets fmt, with fmt's text TOLD by the authors' own Lean function (tested against real Go, not proved from fmt's source: count such statements apart). THE CARD IS WHAT COUNTS. Prove the row's statement (the work); the ties are given (YtpicaknklgccoaaGreatDoorTie.lean); close each card by the builder's one call (the guide's Derived/Test/ToyasCard.lean, 'card_holds'). Laid BY PROGRAM, IN A SANDBOX (cutbox-door.mjs). By AI agents, Wed Nov 11 2026. No macro, syntax, notation, axiom, sorry.
-/
import Derived.Test.YtpicaknklgccoaaGreatDoorRows
import GoSem.ClaimSeven
namespace Go.Proofs.YtpicaknklgccoaaGreatDoor
namespace Rows

/-- THE TIED CARD OF 'leaselaw.Evals'. -/
def evalsCard : Claim7 := { stood := { row := evalsRow, standIns := [], harness := (true, "cf1016cf10f6ad19b8668d1957df67978a6ae99f54463e87d338dcf051e4ba37"), looks := false }, kinds := [], alts := [], laidByText := true, laidKinds := [.data, .data, .data], laidTests := true, laidLooks := .later }
def EvalsCardSaid : Prop := Claim7.holds Tryz.pinned (.plain (OpenSpec.ofChange evalsSpec)) evalsCard

/-- THE TIED CARD OF 'leaselaw.Places'. -/
def placesCard : Claim7 := { stood := { row := placesRow, standIns := [], harness := (true, "cf1016cf10f6ad19b8668d1957df67978a6ae99f54463e87d338dcf051e4ba37"), looks := false }, kinds := [], alts := [], laidByText := true, laidKinds := [.data, .data, .data], laidTests := true, laidLooks := .later }
def PlacesCardSaid : Prop := Claim7.holds Tryz.pinned (.plain (OpenSpec.ofChange placesSpec)) placesCard

/-- THE TIED CARD OF 'leaselaw.Runs'. -/
def runsCard : Claim7 := { stood := { row := runsRow, standIns := [], harness := (true, "cf1016cf10f6ad19b8668d1957df67978a6ae99f54463e87d338dcf051e4ba37"), looks := false }, kinds := [], alts := [], laidByText := true, laidKinds := [.data, .data, .data], laidTests := true, laidLooks := .later }
def RunsCardSaid : Prop := Claim7.holds Tryz.pinned (.plain (OpenSpec.ofChange runsSpec)) runsCard

/-- THE TIED CARD OF 'leaselaw.All'. -/
def allCard : Claim7 := { stood := { row := allRow, standIns := [], harness := (true, "cf1016cf10f6ad19b8668d1957df67978a6ae99f54463e87d338dcf051e4ba37"), looks := false }, kinds := [], alts := [], laidByText := true, laidKinds := [.data, .data, .data], laidTests := true, laidLooks := .later }
def AllCardSaid : Prop := Claim7.holds Tryz.pinned (.plain (OpenSpec.ofChange allSpec)) allCard

/-- THE TIED CARD OF 'leasekeep.Known'. -/
def knownCard : Claim7 := { stood := { row := knownRow, standIns := [], harness := (true, "cf1016cf10f6ad19b8668d1957df67978a6ae99f54463e87d338dcf051e4ba37"), looks := false }, kinds := [], alts := [], laidByText := true, laidKinds := [.data, .data, .data], laidTests := true, laidLooks := .later }
def KnownCardSaid : Prop := Claim7.holds Tryz.pinned (.plain (OpenSpec.ofChange knownSpec)) knownCard

/-- THE TIED CARD OF 'leasekeep.Tidied'. -/
def tidiedCard : Claim7 := { stood := { row := tidiedRow, standIns := [], harness := (true, "cf1016cf10f6ad19b8668d1957df67978a6ae99f54463e87d338dcf051e4ba37"), looks := false }, kinds := [], alts := [], laidByText := true, laidKinds := [.data, .data, .data], laidTests := true, laidLooks := .later }
def TidiedCardSaid : Prop := Claim7.holds Tryz.pinned (.plain (OpenSpec.ofChange tidiedSpec)) tidiedCard

/-- THE TIED CARD OF 'leasekeep.Same'. -/
def sameCard : Claim7 := { stood := { row := sameRow, standIns := [], harness := (true, "cf1016cf10f6ad19b8668d1957df67978a6ae99f54463e87d338dcf051e4ba37"), looks := false }, kinds := [], alts := [], laidByText := true, laidKinds := [.data, .data, .data], laidTests := true, laidLooks := .later }
def SameCardSaid : Prop := Claim7.holds Tryz.pinned (.plain (OpenSpec.ofChange sameSpec)) sameCard

/-- THE TIED CARD OF 'leasekeep.Ended'. -/
def endedCard : Claim7 := { stood := { row := endedRow, standIns := [], harness := (true, "cf1016cf10f6ad19b8668d1957df67978a6ae99f54463e87d338dcf051e4ba37"), looks := false }, kinds := [], alts := [], laidByText := true, laidKinds := [.data, .data, .data], laidTests := true, laidLooks := .later }
def EndedCardSaid : Prop := Claim7.holds Tryz.pinned (.plain (OpenSpec.ofChange endedSpec)) endedCard

/-- THE TIED CARD OF 'leasekeep.Fuelled'. -/
def fuelledCard : Claim7 := { stood := { row := fuelledRow, standIns := [], harness := (true, "cf1016cf10f6ad19b8668d1957df67978a6ae99f54463e87d338dcf051e4ba37"), looks := false }, kinds := [], alts := [], laidByText := true, laidKinds := [.data, .data, .data], laidTests := true, laidLooks := .later }
def FuelledCardSaid : Prop := Claim7.holds Tryz.pinned (.plain (OpenSpec.ofChange fuelledSpec)) fuelledCard

/-- THE SECOND FORM's CARD OF 'leaselaw.Evals'. -/
def evalsUptoCard : Claim7 := { stood := { row := evalsUptoRow, standIns := [], harness := (true, "cf1016cf10f6ad19b8668d1957df67978a6ae99f54463e87d338dcf051e4ba37"), looks := false }, kinds := [], alts := [], laidByText := true, laidKinds := [.data, .data, .data], laidTests := true, laidLooks := .later }
def EvalsUptoCardSaid : Prop := Claim7.holds Tryz.pinned (.plain (OpenSpec.upto evalsSpec)) evalsUptoCard

/-- THE SECOND FORM's CARD OF 'leaselaw.Places'. -/
def placesUptoCard : Claim7 := { stood := { row := placesUptoRow, standIns := [], harness := (true, "cf1016cf10f6ad19b8668d1957df67978a6ae99f54463e87d338dcf051e4ba37"), looks := false }, kinds := [], alts := [], laidByText := true, laidKinds := [.data, .data, .data], laidTests := true, laidLooks := .later }
def PlacesUptoCardSaid : Prop := Claim7.holds Tryz.pinned (.plain (OpenSpec.upto placesSpec)) placesUptoCard

/-- THE SECOND FORM's CARD OF 'leaselaw.Runs'. -/
def runsUptoCard : Claim7 := { stood := { row := runsUptoRow, standIns := [], harness := (true, "cf1016cf10f6ad19b8668d1957df67978a6ae99f54463e87d338dcf051e4ba37"), looks := false }, kinds := [], alts := [], laidByText := true, laidKinds := [.data, .data, .data], laidTests := true, laidLooks := .later }
def RunsUptoCardSaid : Prop := Claim7.holds Tryz.pinned (.plain (OpenSpec.upto runsSpec)) runsUptoCard

/-- THE SECOND FORM's CARD OF 'leaselaw.All'. -/
def allUptoCard : Claim7 := { stood := { row := allUptoRow, standIns := [], harness := (true, "cf1016cf10f6ad19b8668d1957df67978a6ae99f54463e87d338dcf051e4ba37"), looks := false }, kinds := [], alts := [], laidByText := true, laidKinds := [.data, .data, .data], laidTests := true, laidLooks := .later }
def AllUptoCardSaid : Prop := Claim7.holds Tryz.pinned (.plain (OpenSpec.upto allSpec)) allUptoCard

/-- THE SECOND FORM's CARD OF 'leasekeep.Known'. -/
def knownUptoCard : Claim7 := { stood := { row := knownUptoRow, standIns := [], harness := (true, "cf1016cf10f6ad19b8668d1957df67978a6ae99f54463e87d338dcf051e4ba37"), looks := false }, kinds := [], alts := [], laidByText := true, laidKinds := [.data, .data, .data], laidTests := true, laidLooks := .later }
def KnownUptoCardSaid : Prop := Claim7.holds Tryz.pinned (.plain (OpenSpec.upto knownSpec)) knownUptoCard

/-- THE SECOND FORM's CARD OF 'leasekeep.Tidied'. -/
def tidiedUptoCard : Claim7 := { stood := { row := tidiedUptoRow, standIns := [], harness := (true, "cf1016cf10f6ad19b8668d1957df67978a6ae99f54463e87d338dcf051e4ba37"), looks := false }, kinds := [], alts := [], laidByText := true, laidKinds := [.data, .data, .data], laidTests := true, laidLooks := .later }
def TidiedUptoCardSaid : Prop := Claim7.holds Tryz.pinned (.plain (OpenSpec.upto tidiedSpec)) tidiedUptoCard

/-- THE SECOND FORM's CARD OF 'leasekeep.Same'. -/
def sameUptoCard : Claim7 := { stood := { row := sameUptoRow, standIns := [], harness := (true, "cf1016cf10f6ad19b8668d1957df67978a6ae99f54463e87d338dcf051e4ba37"), looks := false }, kinds := [], alts := [], laidByText := true, laidKinds := [.data, .data, .data], laidTests := true, laidLooks := .later }
def SameUptoCardSaid : Prop := Claim7.holds Tryz.pinned (.plain (OpenSpec.upto sameSpec)) sameUptoCard

/-- THE SECOND FORM's CARD OF 'leasekeep.Ended'. -/
def endedUptoCard : Claim7 := { stood := { row := endedUptoRow, standIns := [], harness := (true, "cf1016cf10f6ad19b8668d1957df67978a6ae99f54463e87d338dcf051e4ba37"), looks := false }, kinds := [], alts := [], laidByText := true, laidKinds := [.data, .data, .data], laidTests := true, laidLooks := .later }
def EndedUptoCardSaid : Prop := Claim7.holds Tryz.pinned (.plain (OpenSpec.upto endedSpec)) endedUptoCard

/-- THE SECOND FORM's CARD OF 'leasekeep.Fuelled'. -/
def fuelledUptoCard : Claim7 := { stood := { row := fuelledUptoRow, standIns := [], harness := (true, "cf1016cf10f6ad19b8668d1957df67978a6ae99f54463e87d338dcf051e4ba37"), looks := false }, kinds := [], alts := [], laidByText := true, laidKinds := [.data, .data, .data], laidTests := true, laidLooks := .later }
def FuelledUptoCardSaid : Prop := Claim7.holds Tryz.pinned (.plain (OpenSpec.upto fuelledSpec)) fuelledUptoCard
end Rows
end Go.Proofs.YtpicaknklgccoaaGreatDoor
