/-
  DERIVED. GIVEN WITH THE SEED: THE CARDS: each row of YtkgjlcdefnpkpaaGreatDoorRows.lean that lists a variable, with what it lists TIED to the program's text (the seventh form; the later family's looks); each row that meets fmt, with fmt's text TOLD by the authors' own Lean function (tested against real Go, not proved from fmt's source: count such statements apart). THE CARD IS WHAT COUNTS. Prove the row's statement (the work); the ties are given (YtkgjlcdefnpkpaaGreatDoorTie.lean); close each card by the builder's one call (the guide's Derived/Test/ToyasCard.lean, 'card_holds'). Laid BY PROGRAM, IN A SANDBOX (cutbox-door.mjs). By AI agents, Wed Nov 11 2026. No macro, syntax, notation, axiom, sorry.
-/
import Derived.Test.YtkgjlcdefnpkpaaGreatDoorRows
import GoSem.ClaimSeven
namespace Go.Proofs.YtkgjlcdefnpkpaaGreatDoor
namespace Rows

/-- THE TIED CARD OF 'escutcheonlaw18.CrlBodies'. -/
def crlBodiesCard : Claim7 := { stood := { row := crlBodiesRow, standIns := [], harness := (true, "02291829f0233e9bcf4c1dffd3b9d97dd1093c3874e2887af0ecd79900c0f9f9"), looks := true }, kinds := [], alts := [], laidByText := true, laidKinds := [.data], laidTests := true, laidLooks := .later }
def CrlBodiesCardSaid : Prop := Claim7.holds Tryz.pinned (.plain (OpenSpec.ofChange crlBodiesSpec)) crlBodiesCard

/-- THE TIED CARD OF 'escutcheonlaw18.CrlEncodes'. -/
def crlEncodesCard : Claim7 := { stood := { row := crlEncodesRow, standIns := [], harness := (true, "02291829f0233e9bcf4c1dffd3b9d97dd1093c3874e2887af0ecd79900c0f9f9"), looks := true }, kinds := [], alts := [], laidByText := true, laidKinds := [.handle, .data], laidTests := true, laidLooks := .later }
def CrlEncodesCardSaid : Prop := Claim7.holds Tryz.pinned (.plain (OpenSpec.ofChange crlEncodesSpec)) crlEncodesCard

/-- THE TIED CARD OF 'escutcheonlaw18.CrlDecodes'. -/
def crlDecodesCard : Claim7 := { stood := { row := crlDecodesRow, standIns := [], harness := (true, "02291829f0233e9bcf4c1dffd3b9d97dd1093c3874e2887af0ecd79900c0f9f9"), looks := true }, kinds := [], alts := [], laidByText := true, laidKinds := [.handle, .data], laidTests := true, laidLooks := .later }
def CrlDecodesCardSaid : Prop := Claim7.holds Tryz.pinned (.plain (OpenSpec.ofChange crlDecodesSpec)) crlDecodesCard

/-- THE TIED CARD OF 'escutcheonlaw18.CrlHas'. -/
def crlHasCard : Claim7 := { stood := { row := crlHasRow, standIns := [], harness := (true, "02291829f0233e9bcf4c1dffd3b9d97dd1093c3874e2887af0ecd79900c0f9f9"), looks := true }, kinds := [], alts := [], laidByText := true, laidKinds := [.data], laidTests := true, laidLooks := .later }
def CrlHasCardSaid : Prop := Claim7.holds Tryz.pinned (.plain (OpenSpec.ofChange crlHasSpec)) crlHasCard

/-- THE TIED CARD OF 'escutcheonlaw18.CrlBack'. -/
def crlBackCard : Claim7 := { stood := { row := crlBackRow, standIns := [], harness := (true, "02291829f0233e9bcf4c1dffd3b9d97dd1093c3874e2887af0ecd79900c0f9f9"), looks := true }, kinds := [], alts := [], laidByText := true, laidKinds := [.data], laidTests := true, laidLooks := .later }
def CrlBackCardSaid : Prop := Claim7.holds Tryz.pinned (.plain (OpenSpec.ofChange crlBackSpec)) crlBackCard

/-- THE SECOND FORM's CARD OF 'escutcheonlaw18.CrlBodies'. -/
def crlBodiesUptoCard : Claim7 := { stood := { row := crlBodiesUptoRow, standIns := [], harness := (true, "02291829f0233e9bcf4c1dffd3b9d97dd1093c3874e2887af0ecd79900c0f9f9"), looks := true }, kinds := [], alts := [], laidByText := true, laidKinds := [.data], laidTests := true, laidLooks := .later }
def CrlBodiesUptoCardSaid : Prop := Claim7.holds Tryz.pinned (.plain (OpenSpec.upto crlBodiesSpec)) crlBodiesUptoCard

/-- THE SECOND FORM's CARD OF 'escutcheonlaw18.CrlEncodes'. -/
def crlEncodesUptoCard : Claim7 := { stood := { row := crlEncodesUptoRow, standIns := [], harness := (true, "02291829f0233e9bcf4c1dffd3b9d97dd1093c3874e2887af0ecd79900c0f9f9"), looks := true }, kinds := [], alts := [], laidByText := true, laidKinds := [.handle, .data], laidTests := true, laidLooks := .later }
def CrlEncodesUptoCardSaid : Prop := Claim7.holds Tryz.pinned (.plain (OpenSpec.upto crlEncodesSpec)) crlEncodesUptoCard

/-- THE SECOND FORM's CARD OF 'escutcheonlaw18.CrlDecodes'. -/
def crlDecodesUptoCard : Claim7 := { stood := { row := crlDecodesUptoRow, standIns := [], harness := (true, "02291829f0233e9bcf4c1dffd3b9d97dd1093c3874e2887af0ecd79900c0f9f9"), looks := true }, kinds := [], alts := [], laidByText := true, laidKinds := [.handle, .data], laidTests := true, laidLooks := .later }
def CrlDecodesUptoCardSaid : Prop := Claim7.holds Tryz.pinned (.plain (OpenSpec.upto crlDecodesSpec)) crlDecodesUptoCard

/-- THE SECOND FORM's CARD OF 'escutcheonlaw18.CrlHas'. -/
def crlHasUptoCard : Claim7 := { stood := { row := crlHasUptoRow, standIns := [], harness := (true, "02291829f0233e9bcf4c1dffd3b9d97dd1093c3874e2887af0ecd79900c0f9f9"), looks := true }, kinds := [], alts := [], laidByText := true, laidKinds := [.data], laidTests := true, laidLooks := .later }
def CrlHasUptoCardSaid : Prop := Claim7.holds Tryz.pinned (.plain (OpenSpec.upto crlHasSpec)) crlHasUptoCard

/-- THE SECOND FORM's CARD OF 'escutcheonlaw18.CrlBack'. -/
def crlBackUptoCard : Claim7 := { stood := { row := crlBackUptoRow, standIns := [], harness := (true, "02291829f0233e9bcf4c1dffd3b9d97dd1093c3874e2887af0ecd79900c0f9f9"), looks := true }, kinds := [], alts := [], laidByText := true, laidKinds := [.data], laidTests := true, laidLooks := .later }
def CrlBackUptoCardSaid : Prop := Claim7.holds Tryz.pinned (.plain (OpenSpec.upto crlBackSpec)) crlBackUptoCard
end Rows
end Go.Proofs.YtkgjlcdefnpkpaaGreatDoor
