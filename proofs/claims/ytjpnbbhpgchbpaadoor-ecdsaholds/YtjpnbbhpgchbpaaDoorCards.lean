/-
  DERIVED. GIVEN WITH THE SEED: THE CARDS: each row of YtjpnbbhpgchbpaaDoorRows.lean that lists a variable, with what it lists TIED to the program's text (the seventh form; the later family's looks); each row that meets fmt, with fmt's text TOLD by the authors' own Lean function (tested against real Go, not proved from fmt's source: count such statements apart). THE CARD IS WHAT COUNTS. Prove the row's statement (the work); the ties are given (YtjpnbbhpgchbpaaDoorTie.lean); close each card by the builder's one call (the guide's Derived/Test/ToyasCard.lean, 'card_holds'). Laid BY PROGRAM, IN A SANDBOX (cutbox-door.mjs). By AI agents, Wed Nov 11 2026. No macro, syntax, notation, axiom, sorry.
-/
import Derived.Test.YtjpnbbhpgchbpaaDoorRows
import GoSem.ClaimSeven
namespace Go.Proofs.YtjpnbbhpgchbpaaDoor
namespace Rows

/-- THE TIED CARD OF 'escutcheonlaw14.EcdsaHolds'. -/
def ecdsaHoldsCard : Claim7 := { stood := { row := ecdsaHoldsRow, standIns := [], harness := (true, "fb0435e8993a86b9d07f2301ab8d0c1b75e9598eb3bf7a9b93cf31a97d94ea08"), looks := true }, kinds := [], alts := [], laidByText := true, laidKinds := [.data, .data, .data, .data, .data, .data], laidTests := true, laidLooks := .later }
def EcdsaHoldsCardSaid : Prop := Claim7.holds Tryd.pinned (.plain (OpenSpec.ofChange ecdsaHoldsSpec)) ecdsaHoldsCard

/-- THE SECOND FORM's CARD OF 'escutcheonlaw14.EcdsaHolds'. -/
def ecdsaHoldsUptoCard : Claim7 := { stood := { row := ecdsaHoldsUptoRow, standIns := [], harness := (true, "fb0435e8993a86b9d07f2301ab8d0c1b75e9598eb3bf7a9b93cf31a97d94ea08"), looks := true }, kinds := [], alts := [], laidByText := true, laidKinds := [.data, .data, .data, .data, .data, .data], laidTests := true, laidLooks := .later }
def EcdsaHoldsUptoCardSaid : Prop := Claim7.holds Tryd.pinned (.plain (OpenSpec.upto ecdsaHoldsSpec)) ecdsaHoldsUptoCard
end Rows
end Go.Proofs.YtjpnbbhpgchbpaaDoor
