/-
  DERIVED. GIVEN WITH THE SEED: THE CARDS: each row of YtfnplohaokeljaaDoorRows.lean that lists a variable, with what it lists TIED to the program's text (the seventh form; the later family's looks); each row that meets fmt, with fmt's text TOLD by the authors' own Lean function (tested against real Go, not proved from fmt's source: count such statements apart). THE CARD IS WHAT COUNTS. Prove the row's statement (the work); the ties are given (YtfnplohaokeljaaDoorTie.lean); close each card by the builder's one call (the guide's Derived/Test/ToyasCard.lean, 'card_holds'). Laid BY PROGRAM, IN A SANDBOX (cutbox-door.mjs). By AI agents, Wed Nov 11 2026. No macro, syntax, notation, axiom, sorry.
-/
import Derived.Test.YtfnplohaokeljaaDoorRows
import GoSem.ClaimSeven
namespace Go.Proofs.YtfnplohaokeljaaDoor
namespace Rows

/-- THE TIED CARD OF 'leaselaw.Checks'. -/
def checksCard : Claim7 := { stood := { row := checksRow, standIns := [], harness := (true, "dab81911002bb75b5304a1285c30273aca417408ef574a00bd507ee20918f77a"), looks := false }, kinds := [], alts := [], laidByText := true, laidKinds := [.data, .data, .data], laidTests := true, laidLooks := .later }
def ChecksCardSaid : Prop := Claim7.holds Tryd.pinned (.plain (OpenSpec.ofChange checksSpec)) checksCard

/-- THE TIED CARD OF 'leaselaw.Erases'. -/
def erasesCard : Claim7 := { stood := { row := erasesRow, standIns := [], harness := (true, "dab81911002bb75b5304a1285c30273aca417408ef574a00bd507ee20918f77a"), looks := false }, kinds := [], alts := [], laidByText := true, laidKinds := [.data, .data, .data], laidTests := true, laidLooks := .later }
def ErasesCardSaid : Prop := Claim7.holds Tryd.pinned (.plain (OpenSpec.ofChange erasesSpec)) erasesCard

/-- THE SECOND FORM's CARD OF 'leaselaw.Checks'. -/
def checksUptoCard : Claim7 := { stood := { row := checksUptoRow, standIns := [], harness := (true, "dab81911002bb75b5304a1285c30273aca417408ef574a00bd507ee20918f77a"), looks := false }, kinds := [], alts := [], laidByText := true, laidKinds := [.data, .data, .data], laidTests := true, laidLooks := .later }
def ChecksUptoCardSaid : Prop := Claim7.holds Tryd.pinned (.plain (OpenSpec.upto checksSpec)) checksUptoCard

/-- THE SECOND FORM's CARD OF 'leaselaw.Erases'. -/
def erasesUptoCard : Claim7 := { stood := { row := erasesUptoRow, standIns := [], harness := (true, "dab81911002bb75b5304a1285c30273aca417408ef574a00bd507ee20918f77a"), looks := false }, kinds := [], alts := [], laidByText := true, laidKinds := [.data, .data, .data], laidTests := true, laidLooks := .later }
def ErasesUptoCardSaid : Prop := Claim7.holds Tryd.pinned (.plain (OpenSpec.upto erasesSpec)) erasesUptoCard
end Rows
end Go.Proofs.YtfnplohaokeljaaDoor
