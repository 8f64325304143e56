/-
  DERIVED. GIVEN WITH THE SEED: THE CARDS: each row of YtjpnbbhpgchbpaaGreatDoorRows.lean that lists a variable, with what it lists TIED to the program's text (the seventh form; the later family's looks); each row that meets fmt, with fmt's text TOLD by the authors' own Lean function (tested against real Go, not proved from fmt's source: count such statements apart). THE CARD IS WHAT COUNTS. Prove the row's statement (the work); the ties are given (YtjpnbbhpgchbpaaGreatDoorTie.lean); close each card by the builder's one call (the guide's Derived/Test/ToyasCard.lean, 'card_holds'). Laid BY PROGRAM, IN A SANDBOX (cutbox-door.mjs). By AI agents, Wed Nov 11 2026. No macro, syntax, notation, axiom, sorry.
-/
import Derived.Test.YtjpnbbhpgchbpaaGreatDoorRows
import GoSem.ClaimSeven
namespace Go.Proofs.YtjpnbbhpgchbpaaGreatDoor
namespace Rows

/-- THE TIED CARD OF 'escutcheonlaw14.EcdsaSigns'. -/
def ecdsaSignsCard : Claim7 := { stood := { row := ecdsaSignsRow, standIns := [], harness := (true, "8c0b1fb5c7954589578e206ba342c7725f53f7b0d3c17176661c6d9c02527a0c"), looks := true }, kinds := [], alts := [], laidByText := true, laidKinds := [.handle, .data, .data, .data, .data, .data, .data], laidTests := true, laidLooks := .later }
def EcdsaSignsCardSaid : Prop := Claim7.holds Tryz.pinned (.plain (OpenSpec.ofChange ecdsaSignsSpec)) ecdsaSignsCard

/-- THE TIED CARD OF 'escutcheonlaw14.EcdsaVerifies'. -/
def ecdsaVerifiesCard : Claim7 := { stood := { row := ecdsaVerifiesRow, standIns := [], harness := (true, "8c0b1fb5c7954589578e206ba342c7725f53f7b0d3c17176661c6d9c02527a0c"), looks := true }, kinds := [], alts := [], laidByText := true, laidKinds := [.handle, .data, .data, .data, .data, .data, .data], laidTests := true, laidLooks := .later }
def EcdsaVerifiesCardSaid : Prop := Claim7.holds Tryz.pinned (.plain (OpenSpec.ofChange ecdsaVerifiesSpec)) ecdsaVerifiesCard

/-- THE TIED CARD OF 'escutcheonlaw14.EcdsaEncodes'. -/
def ecdsaEncodesCard : Claim7 := { stood := { row := ecdsaEncodesRow, standIns := [], harness := (true, "8c0b1fb5c7954589578e206ba342c7725f53f7b0d3c17176661c6d9c02527a0c"), looks := true }, kinds := [], alts := [], laidByText := true, laidKinds := [.data, .data, .data, .data, .data, .data], laidTests := true, laidLooks := .later }
def EcdsaEncodesCardSaid : Prop := Claim7.holds Tryz.pinned (.plain (OpenSpec.ofChange ecdsaEncodesSpec)) ecdsaEncodesCard

/-- THE TIED CARD OF 'escutcheonlaw14.EcdsaDecodes'. -/
def ecdsaDecodesCard : Claim7 := { stood := { row := ecdsaDecodesRow, standIns := [], harness := (true, "8c0b1fb5c7954589578e206ba342c7725f53f7b0d3c17176661c6d9c02527a0c"), looks := true }, kinds := [], alts := [], laidByText := true, laidKinds := [.handle, .data, .data, .data, .data, .data, .data], laidTests := true, laidLooks := .later }
def EcdsaDecodesCardSaid : Prop := Claim7.holds Tryz.pinned (.plain (OpenSpec.ofChange ecdsaDecodesSpec)) ecdsaDecodesCard

/-- THE SECOND FORM's CARD OF 'escutcheonlaw14.EcdsaSigns'. -/
def ecdsaSignsUptoCard : Claim7 := { stood := { row := ecdsaSignsUptoRow, standIns := [], harness := (true, "8c0b1fb5c7954589578e206ba342c7725f53f7b0d3c17176661c6d9c02527a0c"), looks := true }, kinds := [], alts := [], laidByText := true, laidKinds := [.handle, .data, .data, .data, .data, .data, .data], laidTests := true, laidLooks := .later }
def EcdsaSignsUptoCardSaid : Prop := Claim7.holds Tryz.pinned (.plain (OpenSpec.upto ecdsaSignsSpec)) ecdsaSignsUptoCard

/-- THE SECOND FORM's CARD OF 'escutcheonlaw14.EcdsaVerifies'. -/
def ecdsaVerifiesUptoCard : Claim7 := { stood := { row := ecdsaVerifiesUptoRow, standIns := [], harness := (true, "8c0b1fb5c7954589578e206ba342c7725f53f7b0d3c17176661c6d9c02527a0c"), looks := true }, kinds := [], alts := [], laidByText := true, laidKinds := [.handle, .data, .data, .data, .data, .data, .data], laidTests := true, laidLooks := .later }
def EcdsaVerifiesUptoCardSaid : Prop := Claim7.holds Tryz.pinned (.plain (OpenSpec.upto ecdsaVerifiesSpec)) ecdsaVerifiesUptoCard

/-- THE SECOND FORM's CARD OF 'escutcheonlaw14.EcdsaEncodes'. -/
def ecdsaEncodesUptoCard : Claim7 := { stood := { row := ecdsaEncodesUptoRow, standIns := [], harness := (true, "8c0b1fb5c7954589578e206ba342c7725f53f7b0d3c17176661c6d9c02527a0c"), looks := true }, kinds := [], alts := [], laidByText := true, laidKinds := [.data, .data, .data, .data, .data, .data], laidTests := true, laidLooks := .later }
def EcdsaEncodesUptoCardSaid : Prop := Claim7.holds Tryz.pinned (.plain (OpenSpec.upto ecdsaEncodesSpec)) ecdsaEncodesUptoCard

/-- THE SECOND FORM's CARD OF 'escutcheonlaw14.EcdsaDecodes'. -/
def ecdsaDecodesUptoCard : Claim7 := { stood := { row := ecdsaDecodesUptoRow, standIns := [], harness := (true, "8c0b1fb5c7954589578e206ba342c7725f53f7b0d3c17176661c6d9c02527a0c"), looks := true }, kinds := [], alts := [], laidByText := true, laidKinds := [.handle, .data, .data, .data, .data, .data, .data], laidTests := true, laidLooks := .later }
def EcdsaDecodesUptoCardSaid : Prop := Claim7.holds Tryz.pinned (.plain (OpenSpec.upto ecdsaDecodesSpec)) ecdsaDecodesUptoCard
end Rows
end Go.Proofs.YtjpnbbhpgchbpaaGreatDoor
