/-
  DERIVED. GIVEN WITH THE SEED: THE CARDS: each row of YtpicaknklgccoaaDoorRows.lean that lists a variable, with what it lists TIED to the program's text (the seventh form; the later family's looks); each row that meets fmt, with fmt's text TOLD by the authors' own Lean function (tested against real Go, not proved from fmt's source: count such statements apart). THE CARD IS WHAT COUNTS. Prove the row's statement (the work); the ties are given (YtpicaknklgccoaaDoorTie.lean); close each card by the builder's one call (the guide's Derived/Test/ToyasCard.lean, 'card_holds'). Laid BY PROGRAM, IN A SANDBOX (cutbox-door.mjs). By AI agents, Wed Nov 11 2026. No macro, syntax, notation, axiom, sorry.
-/
import Derived.Test.YtpicaknklgccoaaDoorRows
import GoSem.ClaimSeven
namespace Go.Proofs.YtpicaknklgccoaaDoor
namespace Rows

/-- THE TIED CARD OF 'leaselaw.Checks'. -/
def checksCard : Claim7 := { stood := { row := checksRow, standIns := [], harness := (true, "dc2cef3c3aa5a9b419a5f9ac19d521205ec3e65b4a7c87b3c31aef9567daa4a4"), looks := false }, kinds := [], alts := [], laidByText := true, laidKinds := [.data, .data, .data], laidTests := true, laidLooks := .later }
def ChecksCardSaid : Prop := Claim7.holds Tryd.pinned (.plain (OpenSpec.ofChange checksSpec)) checksCard

/-- THE TIED CARD OF 'leaselaw.Erases'. -/
def erasesCard : Claim7 := { stood := { row := erasesRow, standIns := [], harness := (true, "dc2cef3c3aa5a9b419a5f9ac19d521205ec3e65b4a7c87b3c31aef9567daa4a4"), looks := false }, kinds := [], alts := [], laidByText := true, laidKinds := [.data, .data, .data], laidTests := true, laidLooks := .later }
def ErasesCardSaid : Prop := Claim7.holds Tryd.pinned (.plain (OpenSpec.ofChange erasesSpec)) erasesCard

/-- THE TIED CARD OF 'leaselaw.Vets'. -/
def vetsCard : Claim7 := { stood := { row := vetsRow, standIns := [], harness := (true, "dc2cef3c3aa5a9b419a5f9ac19d521205ec3e65b4a7c87b3c31aef9567daa4a4"), looks := false }, kinds := [], alts := [], laidByText := true, laidKinds := [.data, .data, .data], laidTests := true, laidLooks := .later }
def VetsCardSaid : Prop := Claim7.holds Tryd.pinned (.plain (OpenSpec.ofChange vetsSpec)) vetsCard

/-- THE SECOND FORM's CARD OF 'leaselaw.Checks'. -/
def checksUptoCard : Claim7 := { stood := { row := checksUptoRow, standIns := [], harness := (true, "dc2cef3c3aa5a9b419a5f9ac19d521205ec3e65b4a7c87b3c31aef9567daa4a4"), looks := false }, kinds := [], alts := [], laidByText := true, laidKinds := [.data, .data, .data], laidTests := true, laidLooks := .later }
def ChecksUptoCardSaid : Prop := Claim7.holds Tryd.pinned (.plain (OpenSpec.upto checksSpec)) checksUptoCard

/-- THE SECOND FORM's CARD OF 'leaselaw.Erases'. -/
def erasesUptoCard : Claim7 := { stood := { row := erasesUptoRow, standIns := [], harness := (true, "dc2cef3c3aa5a9b419a5f9ac19d521205ec3e65b4a7c87b3c31aef9567daa4a4"), looks := false }, kinds := [], alts := [], laidByText := true, laidKinds := [.data, .data, .data], laidTests := true, laidLooks := .later }
def ErasesUptoCardSaid : Prop := Claim7.holds Tryd.pinned (.plain (OpenSpec.upto erasesSpec)) erasesUptoCard

/-- THE SECOND FORM's CARD OF 'leaselaw.Vets'. -/
def vetsUptoCard : Claim7 := { stood := { row := vetsUptoRow, standIns := [], harness := (true, "dc2cef3c3aa5a9b419a5f9ac19d521205ec3e65b4a7c87b3c31aef9567daa4a4"), looks := false }, kinds := [], alts := [], laidByText := true, laidKinds := [.data, .data, .data], laidTests := true, laidLooks := .later }
def VetsUptoCardSaid : Prop := Claim7.holds Tryd.pinned (.plain (OpenSpec.upto vetsSpec)) vetsUptoCard
end Rows
end Go.Proofs.YtpicaknklgccoaaDoor
