/-
  DERIVED. GIVEN WITH THE SEED: THE CARDS: each row of YtnkipgbnnhahbaaDoorRows.lean that lists a variable, with what it lists TIED to the program's text (the seventh form; the later family's looks); each row that meets fmt, with fmt's text TOLD by the authors' own Lean function (tested against real Go, not proved from fmt's source: count such statements apart). THE CARD IS WHAT COUNTS. Prove the row's statement (the work); the ties are given (YtnkipgbnnhahbaaDoorTie.lean); close each card by the builder's one call (the guide's Derived/Test/ToyasCard.lean, 'card_holds'). Laid BY PROGRAM, IN A SANDBOX (cutbox-door.mjs). By AI agents, Wed Nov 11 2026. No macro, syntax, notation, axiom, sorry.
-/
import Derived.Test.YtnkipgbnnhahbaaDoorRows
import GoSem.ClaimSeven
namespace Go.Proofs.YtnkipgbnnhahbaaDoor
namespace Rows

/-- THE TIED CARD OF 'escutcheonlaw20.ManifestDecodes'. -/
def manifestDecodesCard : Claim7 := { stood := { row := manifestDecodesRow, standIns := [], harness := (true, "a23cdce8c9d66aa5db1013a53695d19871eeaff094e45269198d73bbf4d238ea"), looks := true }, kinds := [], alts := [], laidByText := true, laidKinds := [.handle], laidTests := true, laidLooks := .later }
def ManifestDecodesCardSaid : Prop := Claim7.holds Tryd.pinned (.plain (OpenSpec.ofChange manifestDecodesSpec)) manifestDecodesCard

/-- THE SECOND FORM's CARD OF 'escutcheonlaw20.ManifestDecodes'. -/
def manifestDecodesUptoCard : Claim7 := { stood := { row := manifestDecodesUptoRow, standIns := [], harness := (true, "a23cdce8c9d66aa5db1013a53695d19871eeaff094e45269198d73bbf4d238ea"), looks := true }, kinds := [], alts := [], laidByText := true, laidKinds := [.handle], laidTests := true, laidLooks := .later }
def ManifestDecodesUptoCardSaid : Prop := Claim7.holds Tryd.pinned (.plain (OpenSpec.upto manifestDecodesSpec)) manifestDecodesUptoCard
end Rows
end Go.Proofs.YtnkipgbnnhahbaaDoor
