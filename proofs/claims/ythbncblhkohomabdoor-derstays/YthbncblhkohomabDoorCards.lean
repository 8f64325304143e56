/-
  DERIVED. GIVEN WITH THE SEED: THE CARDS: each row of YthbncblhkohomabDoorRows.lean that lists a variable, with what it lists TIED to the program's text (the seventh form; the later family's looks); each row that meets fmt, with fmt's text TOLD by the authors' own Lean function (tested against real Go, not proved from fmt's source: count such statements apart). THE CARD IS WHAT COUNTS. Prove the row's statement (the work); the ties are given (YthbncblhkohomabDoorTie.lean); close each card by the builder's one call (the guide's Derived/Test/ToyasCard.lean, 'card_holds'). Laid BY PROGRAM, IN A SANDBOX (cutbox-door.mjs). By AI agents, Wed Nov 11 2026. No macro, syntax, notation, axiom, sorry.
-/
import Derived.Test.YthbncblhkohomabDoorRows
import GoSem.ClaimSeven
namespace Go.Proofs.YthbncblhkohomabDoor
namespace Rows

/-- THE TIED CARD OF 'escutcheonlaw12.DerStays'. -/
def derStaysCard : Claim7 := { stood := { row := derStaysRow, standIns := [], harness := (true, "192a74011f84ad49e6511ba24904c856854ef372a6f5307ef6a69c4bfdddce20"), looks := true }, kinds := [], alts := [], laidByText := true, laidKinds := [.handle], laidTests := true, laidLooks := .later }
def DerStaysCardSaid : Prop := Claim7.holds Tryd.pinned (.plain (OpenSpec.ofChange derStaysSpec)) derStaysCard

/-- THE SECOND FORM's CARD OF 'escutcheonlaw12.DerStays'. -/
def derStaysUptoCard : Claim7 := { stood := { row := derStaysUptoRow, standIns := [], harness := (true, "192a74011f84ad49e6511ba24904c856854ef372a6f5307ef6a69c4bfdddce20"), looks := true }, kinds := [], alts := [], laidByText := true, laidKinds := [.handle], laidTests := true, laidLooks := .later }
def DerStaysUptoCardSaid : Prop := Claim7.holds Tryd.pinned (.plain (OpenSpec.upto derStaysSpec)) derStaysUptoCard
end Rows
end Go.Proofs.YthbncblhkohomabDoor
