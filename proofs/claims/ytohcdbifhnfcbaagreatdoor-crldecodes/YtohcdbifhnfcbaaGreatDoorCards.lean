/-
  DERIVED. GIVEN WITH THE SEED: THE CARDS: each row of YtohcdbifhnfcbaaGreatDoorRows.lean that lists a variable, with what it lists TIED to the program's text (the seventh form; the later family's looks); each row that meets fmt, with fmt's text TOLD by the authors' own Lean function (tested against real Go, not proved from fmt's source: count such statements apart). THE CARD IS WHAT COUNTS. Prove the row's statement (the work); the ties are given (YtohcdbifhnfcbaaGreatDoorTie.lean); close each card by the builder's one call (the guide's Derived/Test/ToyasCard.lean, 'card_holds'). Laid BY PROGRAM, IN A SANDBOX (cutbox-door.mjs). By AI agents, Wed Nov 11 2026. No macro, syntax, notation, axiom, sorry.
-/
import Derived.Test.YtohcdbifhnfcbaaGreatDoorRows
import GoSem.ClaimSeven
namespace Go.Proofs.YtohcdbifhnfcbaaGreatDoor
namespace Rows

/-- THE TIED CARD OF 'escutcheonlaw18.CrlDecodes'. -/
def crlDecodesCard : Claim7 := { stood := { row := crlDecodesRow, standIns := [], harness := (true, "8551eb1b93c4f4a59fff33090b321955a2ea91d237cdfef011e7e042382cf3fc"), looks := true }, kinds := [], alts := [], laidByText := true, laidKinds := [.handle, .data], laidTests := true, laidLooks := .later }
def CrlDecodesCardSaid : Prop := Claim7.holds Tryz.pinned (.plain (OpenSpec.ofChange crlDecodesSpec)) crlDecodesCard

/-- THE TIED CARD OF 'escutcheonlaw18.CrlBack'. -/
def crlBackCard : Claim7 := { stood := { row := crlBackRow, standIns := [], harness := (true, "8551eb1b93c4f4a59fff33090b321955a2ea91d237cdfef011e7e042382cf3fc"), looks := true }, kinds := [], alts := [], laidByText := true, laidKinds := [.data], laidTests := true, laidLooks := .later }
def CrlBackCardSaid : Prop := Claim7.holds Tryz.pinned (.plain (OpenSpec.ofChange crlBackSpec)) crlBackCard

/-- THE SECOND FORM's CARD OF 'escutcheonlaw18.CrlDecodes'. -/
def crlDecodesUptoCard : Claim7 := { stood := { row := crlDecodesUptoRow, standIns := [], harness := (true, "8551eb1b93c4f4a59fff33090b321955a2ea91d237cdfef011e7e042382cf3fc"), looks := true }, kinds := [], alts := [], laidByText := true, laidKinds := [.handle, .data], laidTests := true, laidLooks := .later }
def CrlDecodesUptoCardSaid : Prop := Claim7.holds Tryz.pinned (.plain (OpenSpec.upto crlDecodesSpec)) crlDecodesUptoCard

/-- THE SECOND FORM's CARD OF 'escutcheonlaw18.CrlBack'. -/
def crlBackUptoCard : Claim7 := { stood := { row := crlBackUptoRow, standIns := [], harness := (true, "8551eb1b93c4f4a59fff33090b321955a2ea91d237cdfef011e7e042382cf3fc"), looks := true }, kinds := [], alts := [], laidByText := true, laidKinds := [.data], laidTests := true, laidLooks := .later }
def CrlBackUptoCardSaid : Prop := Claim7.holds Tryz.pinned (.plain (OpenSpec.upto crlBackSpec)) crlBackUptoCard
end Rows
end Go.Proofs.YtohcdbifhnfcbaaGreatDoor
