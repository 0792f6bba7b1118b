/-
  DERIVED. GIVEN WITH THE SEED: THE CARDS: each row of YtpicaknklgccoabGreatDoorRows.lean that lists a variable, with what it lists TIED to the program's text (the seventh form; the later family's looks); each row that meets fmt, with fmt's text TOLD by the authors' own Lean function (tested against real Go, not proved from fmt's source: count such statements apart). THE CARD IS WHAT COUNTS. Prove the row's statement (the work); the ties are given (YtpicaknklgccoabGreatDoorTie.lean); close each card by the builder's one call (the guide's Derived/Test/ToyasCard.lean, 'card_holds'). Laid BY PROGRAM, IN A SANDBOX (cutbox-door.mjs). By AI agents, Wed Nov 11 2026. No macro, syntax, notation, axiom, sorry.
-/
import Derived.Test.YtpicaknklgccoabGreatDoorRows
import GoSem.ClaimSeven
namespace Go.Proofs.YtpicaknklgccoabGreatDoor
namespace Rows

/-- THE TIED CARD OF 'leasekeep.One'. -/
def oneCard : Claim7 := { stood := { row := oneRow, standIns := [], harness := (true, "2b145ef28ac889ec3ad8732edb74aedb31695df12a02d7de1f5fe91775e436d1"), looks := false }, kinds := [], alts := [], laidByText := true, laidKinds := [.data, .data, .data], laidTests := true, laidLooks := .later }
def OneCardSaid : Prop := Claim7.holds Tryz.pinned (.plain (OpenSpec.ofChange oneSpec)) oneCard

/-- THE TIED CARD OF 'leasekeep.Tight'. -/
def tightCard : Claim7 := { stood := { row := tightRow, standIns := [], harness := (true, "2b145ef28ac889ec3ad8732edb74aedb31695df12a02d7de1f5fe91775e436d1"), looks := false }, kinds := [], alts := [], laidByText := true, laidKinds := [.data, .data, .data], laidTests := true, laidLooks := .later }
def TightCardSaid : Prop := Claim7.holds Tryz.pinned (.plain (OpenSpec.ofChange tightSpec)) tightCard

/-- THE TIED CARD OF 'leasekeep.Least'. -/
def leastCard : Claim7 := { stood := { row := leastRow, standIns := [], harness := (true, "2b145ef28ac889ec3ad8732edb74aedb31695df12a02d7de1f5fe91775e436d1"), looks := false }, kinds := [], alts := [], laidByText := true, laidKinds := [.data, .data, .data], laidTests := true, laidLooks := .later }
def LeastCardSaid : Prop := Claim7.holds Tryz.pinned (.plain (OpenSpec.ofChange leastSpec)) leastCard

/-- THE TIED CARD OF 'leasekeep.Safe'. -/
def safeCard : Claim7 := { stood := { row := safeRow, standIns := [], harness := (true, "2b145ef28ac889ec3ad8732edb74aedb31695df12a02d7de1f5fe91775e436d1"), looks := false }, kinds := [], alts := [], laidByText := true, laidKinds := [.data, .data, .data], laidTests := true, laidLooks := .later }
def SafeCardSaid : Prop := Claim7.holds Tryz.pinned (.plain (OpenSpec.ofChange safeSpec)) safeCard

/-- THE TIED CARD OF 'leasekeep.Dead'. -/
def deadCard : Claim7 := { stood := { row := deadRow, standIns := [], harness := (true, "2b145ef28ac889ec3ad8732edb74aedb31695df12a02d7de1f5fe91775e436d1"), looks := false }, kinds := [], alts := [], laidByText := true, laidKinds := [.data, .data, .data], laidTests := true, laidLooks := .later }
def DeadCardSaid : Prop := Claim7.holds Tryz.pinned (.plain (OpenSpec.ofChange deadSpec)) deadCard

/-- THE SECOND FORM's CARD OF 'leasekeep.One'. -/
def oneUptoCard : Claim7 := { stood := { row := oneUptoRow, standIns := [], harness := (true, "2b145ef28ac889ec3ad8732edb74aedb31695df12a02d7de1f5fe91775e436d1"), looks := false }, kinds := [], alts := [], laidByText := true, laidKinds := [.data, .data, .data], laidTests := true, laidLooks := .later }
def OneUptoCardSaid : Prop := Claim7.holds Tryz.pinned (.plain (OpenSpec.upto oneSpec)) oneUptoCard

/-- THE SECOND FORM's CARD OF 'leasekeep.Tight'. -/
def tightUptoCard : Claim7 := { stood := { row := tightUptoRow, standIns := [], harness := (true, "2b145ef28ac889ec3ad8732edb74aedb31695df12a02d7de1f5fe91775e436d1"), looks := false }, kinds := [], alts := [], laidByText := true, laidKinds := [.data, .data, .data], laidTests := true, laidLooks := .later }
def TightUptoCardSaid : Prop := Claim7.holds Tryz.pinned (.plain (OpenSpec.upto tightSpec)) tightUptoCard

/-- THE SECOND FORM's CARD OF 'leasekeep.Least'. -/
def leastUptoCard : Claim7 := { stood := { row := leastUptoRow, standIns := [], harness := (true, "2b145ef28ac889ec3ad8732edb74aedb31695df12a02d7de1f5fe91775e436d1"), looks := false }, kinds := [], alts := [], laidByText := true, laidKinds := [.data, .data, .data], laidTests := true, laidLooks := .later }
def LeastUptoCardSaid : Prop := Claim7.holds Tryz.pinned (.plain (OpenSpec.upto leastSpec)) leastUptoCard

/-- THE SECOND FORM's CARD OF 'leasekeep.Safe'. -/
def safeUptoCard : Claim7 := { stood := { row := safeUptoRow, standIns := [], harness := (true, "2b145ef28ac889ec3ad8732edb74aedb31695df12a02d7de1f5fe91775e436d1"), looks := false }, kinds := [], alts := [], laidByText := true, laidKinds := [.data, .data, .data], laidTests := true, laidLooks := .later }
def SafeUptoCardSaid : Prop := Claim7.holds Tryz.pinned (.plain (OpenSpec.upto safeSpec)) safeUptoCard

/-- THE SECOND FORM's CARD OF 'leasekeep.Dead'. -/
def deadUptoCard : Claim7 := { stood := { row := deadUptoRow, standIns := [], harness := (true, "2b145ef28ac889ec3ad8732edb74aedb31695df12a02d7de1f5fe91775e436d1"), looks := false }, kinds := [], alts := [], laidByText := true, laidKinds := [.data, .data, .data], laidTests := true, laidLooks := .later }
def DeadUptoCardSaid : Prop := Claim7.holds Tryz.pinned (.plain (OpenSpec.upto deadSpec)) deadUptoCard
end Rows
end Go.Proofs.YtpicaknklgccoabGreatDoor
