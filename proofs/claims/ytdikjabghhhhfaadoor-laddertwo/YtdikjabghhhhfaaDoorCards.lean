/-
  DERIVED. GIVEN WITH THE SEED: THE CARDS: each row of YtdikjabghhhhfaaDoorRows.lean that lists a variable, with what it lists TIED to the program's text (the seventh form; the later family's looks); each row that meets fmt, with fmt's text TOLD by the authors' own Lean function (tested against real Go, not proved from fmt's source: count such statements apart). THE CARD IS WHAT COUNTS. Prove the row's statement (the work); the ties are given (YtdikjabghhhhfaaDoorTie.lean); close each card by the builder's one call (the guide's Derived/Test/ToyasCard.lean, 'card_holds'). Laid BY PROGRAM, IN A SANDBOX (cutbox-door.mjs). By AI agents, Wed Nov 11 2026. No macro, syntax, notation, axiom, sorry.
-/
import Derived.Test.YtdikjabghhhhfaaDoorRows
import GoSem.ClaimSeven
namespace Go.Proofs.YtdikjabghhhhfaaDoor
namespace Rows

/-- THE TIED CARD OF 'escutcheonlaw06.LadderMuls'. -/
def ladderMulsCard : Claim7 := { stood := { row := ladderMulsRow, standIns := [], harness := (true, "a1e6959736a7c8ea180e11dc35b358de868aaedf3375103be0d3fa1a9c82236d"), looks := true }, kinds := [], alts := [], laidByText := true, laidKinds := [.data, .data, .data, .data], laidTests := true, laidLooks := .later }
def LadderMulsCardSaid : Prop := Claim7.holds Tryd.pinned (.plain (OpenSpec.ofChange ladderMulsSpec)) ladderMulsCard

/-- THE TIED CARD OF 'escutcheonlaw06.LadderBase'. -/
def ladderBaseCard : Claim7 := { stood := { row := ladderBaseRow, standIns := [], harness := (true, "a1e6959736a7c8ea180e11dc35b358de868aaedf3375103be0d3fa1a9c82236d"), looks := true }, kinds := [], alts := [], laidByText := true, laidKinds := [.data, .data, .data, .data], laidTests := true, laidLooks := .later }
def LadderBaseCardSaid : Prop := Claim7.holds Tryd.pinned (.plain (OpenSpec.ofChange ladderBaseSpec)) ladderBaseCard

/-- THE TIED CARD OF 'escutcheonlaw06.LadderTwo'. -/
def ladderTwoCard : Claim7 := { stood := { row := ladderTwoRow, standIns := [], harness := (true, "a1e6959736a7c8ea180e11dc35b358de868aaedf3375103be0d3fa1a9c82236d"), looks := true }, kinds := [], alts := [], laidByText := true, laidKinds := [.data, .data, .data, .data], laidTests := true, laidLooks := .later }
def LadderTwoCardSaid : Prop := Claim7.holds Tryd.pinned (.plain (OpenSpec.ofChange ladderTwoSpec)) ladderTwoCard

/-- THE TIED CARD OF 'escutcheonlaw06.LadderTraced'. -/
def ladderTracedCard : Claim7 := { stood := { row := ladderTracedRow, standIns := [], harness := (true, "a1e6959736a7c8ea180e11dc35b358de868aaedf3375103be0d3fa1a9c82236d"), looks := true }, kinds := [], alts := [], laidByText := true, laidKinds := [.data, .data, .data, .data], laidTests := true, laidLooks := .later }
def LadderTracedCardSaid : Prop := Claim7.holds Tryd.pinned (.plain (OpenSpec.ofChange ladderTracedSpec)) ladderTracedCard

/-- THE TIED CARD OF 'escutcheonlaw06.LadderAdds'. -/
def ladderAddsCard : Claim7 := { stood := { row := ladderAddsRow, standIns := [], harness := (true, "a1e6959736a7c8ea180e11dc35b358de868aaedf3375103be0d3fa1a9c82236d"), looks := true }, kinds := [], alts := [], laidByText := true, laidKinds := [.data, .data, .data, .data, .data, .data], laidTests := true, laidLooks := .later }
def LadderAddsCardSaid : Prop := Claim7.holds Tryd.pinned (.plain (OpenSpec.ofChange ladderAddsSpec)) ladderAddsCard

/-- THE TIED CARD OF 'escutcheonlaw06.LadderOrder'. -/
def ladderOrderCard : Claim7 := { stood := { row := ladderOrderRow, standIns := [], harness := (true, "a1e6959736a7c8ea180e11dc35b358de868aaedf3375103be0d3fa1a9c82236d"), looks := true }, kinds := [], alts := [], laidByText := true, laidKinds := [.data, .data, .data, .data], laidTests := true, laidLooks := .later }
def LadderOrderCardSaid : Prop := Claim7.holds Tryd.pinned (.plain (OpenSpec.ofChange ladderOrderSpec)) ladderOrderCard

/-- THE SECOND FORM's CARD OF 'escutcheonlaw06.LadderMuls'. -/
def ladderMulsUptoCard : Claim7 := { stood := { row := ladderMulsUptoRow, standIns := [], harness := (true, "a1e6959736a7c8ea180e11dc35b358de868aaedf3375103be0d3fa1a9c82236d"), looks := true }, kinds := [], alts := [], laidByText := true, laidKinds := [.data, .data, .data, .data], laidTests := true, laidLooks := .later }
def LadderMulsUptoCardSaid : Prop := Claim7.holds Tryd.pinned (.plain (OpenSpec.upto ladderMulsSpec)) ladderMulsUptoCard

/-- THE SECOND FORM's CARD OF 'escutcheonlaw06.LadderBase'. -/
def ladderBaseUptoCard : Claim7 := { stood := { row := ladderBaseUptoRow, standIns := [], harness := (true, "a1e6959736a7c8ea180e11dc35b358de868aaedf3375103be0d3fa1a9c82236d"), looks := true }, kinds := [], alts := [], laidByText := true, laidKinds := [.data, .data, .data, .data], laidTests := true, laidLooks := .later }
def LadderBaseUptoCardSaid : Prop := Claim7.holds Tryd.pinned (.plain (OpenSpec.upto ladderBaseSpec)) ladderBaseUptoCard

/-- THE SECOND FORM's CARD OF 'escutcheonlaw06.LadderTwo'. -/
def ladderTwoUptoCard : Claim7 := { stood := { row := ladderTwoUptoRow, standIns := [], harness := (true, "a1e6959736a7c8ea180e11dc35b358de868aaedf3375103be0d3fa1a9c82236d"), looks := true }, kinds := [], alts := [], laidByText := true, laidKinds := [.data, .data, .data, .data], laidTests := true, laidLooks := .later }
def LadderTwoUptoCardSaid : Prop := Claim7.holds Tryd.pinned (.plain (OpenSpec.upto ladderTwoSpec)) ladderTwoUptoCard

/-- THE SECOND FORM's CARD OF 'escutcheonlaw06.LadderTraced'. -/
def ladderTracedUptoCard : Claim7 := { stood := { row := ladderTracedUptoRow, standIns := [], harness := (true, "a1e6959736a7c8ea180e11dc35b358de868aaedf3375103be0d3fa1a9c82236d"), looks := true }, kinds := [], alts := [], laidByText := true, laidKinds := [.data, .data, .data, .data], laidTests := true, laidLooks := .later }
def LadderTracedUptoCardSaid : Prop := Claim7.holds Tryd.pinned (.plain (OpenSpec.upto ladderTracedSpec)) ladderTracedUptoCard

/-- THE SECOND FORM's CARD OF 'escutcheonlaw06.LadderAdds'. -/
def ladderAddsUptoCard : Claim7 := { stood := { row := ladderAddsUptoRow, standIns := [], harness := (true, "a1e6959736a7c8ea180e11dc35b358de868aaedf3375103be0d3fa1a9c82236d"), looks := true }, kinds := [], alts := [], laidByText := true, laidKinds := [.data, .data, .data, .data, .data, .data], laidTests := true, laidLooks := .later }
def LadderAddsUptoCardSaid : Prop := Claim7.holds Tryd.pinned (.plain (OpenSpec.upto ladderAddsSpec)) ladderAddsUptoCard

/-- THE SECOND FORM's CARD OF 'escutcheonlaw06.LadderOrder'. -/
def ladderOrderUptoCard : Claim7 := { stood := { row := ladderOrderUptoRow, standIns := [], harness := (true, "a1e6959736a7c8ea180e11dc35b358de868aaedf3375103be0d3fa1a9c82236d"), looks := true }, kinds := [], alts := [], laidByText := true, laidKinds := [.data, .data, .data, .data], laidTests := true, laidLooks := .later }
def LadderOrderUptoCardSaid : Prop := Claim7.holds Tryd.pinned (.plain (OpenSpec.upto ladderOrderSpec)) ladderOrderUptoCard
end Rows
end Go.Proofs.YtdikjabghhhhfaaDoor
