/-
  DERIVED. GIVEN WITH THE SEED: THE CARDS: each row of YtdfmoghjimghhaaGreatDoorRows.lean that lists a variable, with what it lists TIED to the program's text (the seventh form; the later family's looks); each row that meets fmt, with fmt's text TOLD by the authors' own Lean function (tested against real Go, not proved from fmt's source: count such statements apart). THE CARD IS WHAT COUNTS. Prove the row's statement (the work); the ties are given (YtdfmoghjimghhaaGreatDoorTie.lean); close each card by the builder's one call (the guide's Derived/Test/ToyasCard.lean, 'card_holds'). Laid BY PROGRAM, IN A SANDBOX (cutbox-door.mjs). By AI agents, Wed Nov 11 2026. No macro, syntax, notation, axiom, sorry.
-/
import Derived.Test.YtdfmoghjimghhaaGreatDoorRows
import GoSem.ClaimSeven
namespace Go.Proofs.YtdfmoghjimghhaaGreatDoor
namespace Rows

/-- THE TIED CARD OF 'escutcheonlaw17.CertBodies'. -/
def certBodiesCard : Claim7 := { stood := { row := certBodiesRow, standIns := [], harness := (true, "35366bf2f796199d0e699a49bc38ecd0ec7634f80458f4c9d8cb2955367e731e"), looks := true }, kinds := [], alts := [], laidByText := true, laidKinds := [.data, .data, .data, .data], laidTests := true, laidLooks := .later }
def CertBodiesCardSaid : Prop := Claim7.holds Tryz.pinned (.plain (OpenSpec.ofChange certBodiesSpec)) certBodiesCard

/-- THE TIED CARD OF 'escutcheonlaw17.CertDecodes'. -/
def certDecodesCard : Claim7 := { stood := { row := certDecodesRow, standIns := [], harness := (true, "35366bf2f796199d0e699a49bc38ecd0ec7634f80458f4c9d8cb2955367e731e"), looks := true }, kinds := [], alts := [], laidByText := true, laidKinds := [.handle, .data, .data, .data, .data], laidTests := true, laidLooks := .later }
def CertDecodesCardSaid : Prop := Claim7.holds Tryz.pinned (.plain (OpenSpec.ofChange certDecodesSpec)) certDecodesCard

/-- THE TIED CARD OF 'escutcheonlaw17.CertBack'. -/
def certBackCard : Claim7 := { stood := { row := certBackRow, standIns := [], harness := (true, "35366bf2f796199d0e699a49bc38ecd0ec7634f80458f4c9d8cb2955367e731e"), looks := true }, kinds := [], alts := [], laidByText := true, laidKinds := [.data, .data, .data, .data, .data], laidTests := true, laidLooks := .later }
def CertBackCardSaid : Prop := Claim7.holds Tryz.pinned (.plain (OpenSpec.ofChange certBackSpec)) certBackCard

/-- THE TIED CARD OF 'escutcheonlaw17.CertStays'. -/
def certStaysCard : Claim7 := { stood := { row := certStaysRow, standIns := [], harness := (true, "35366bf2f796199d0e699a49bc38ecd0ec7634f80458f4c9d8cb2955367e731e"), looks := true }, kinds := [], alts := [], laidByText := true, laidKinds := [.handle, .data, .data, .data, .data], laidTests := true, laidLooks := .later }
def CertStaysCardSaid : Prop := Claim7.holds Tryz.pinned (.plain (OpenSpec.ofChange certStaysSpec)) certStaysCard

/-- THE SECOND FORM's CARD OF 'escutcheonlaw17.CertBodies'. -/
def certBodiesUptoCard : Claim7 := { stood := { row := certBodiesUptoRow, standIns := [], harness := (true, "35366bf2f796199d0e699a49bc38ecd0ec7634f80458f4c9d8cb2955367e731e"), looks := true }, kinds := [], alts := [], laidByText := true, laidKinds := [.data, .data, .data, .data], laidTests := true, laidLooks := .later }
def CertBodiesUptoCardSaid : Prop := Claim7.holds Tryz.pinned (.plain (OpenSpec.upto certBodiesSpec)) certBodiesUptoCard

/-- THE SECOND FORM's CARD OF 'escutcheonlaw17.CertDecodes'. -/
def certDecodesUptoCard : Claim7 := { stood := { row := certDecodesUptoRow, standIns := [], harness := (true, "35366bf2f796199d0e699a49bc38ecd0ec7634f80458f4c9d8cb2955367e731e"), looks := true }, kinds := [], alts := [], laidByText := true, laidKinds := [.handle, .data, .data, .data, .data], laidTests := true, laidLooks := .later }
def CertDecodesUptoCardSaid : Prop := Claim7.holds Tryz.pinned (.plain (OpenSpec.upto certDecodesSpec)) certDecodesUptoCard

/-- THE SECOND FORM's CARD OF 'escutcheonlaw17.CertBack'. -/
def certBackUptoCard : Claim7 := { stood := { row := certBackUptoRow, standIns := [], harness := (true, "35366bf2f796199d0e699a49bc38ecd0ec7634f80458f4c9d8cb2955367e731e"), looks := true }, kinds := [], alts := [], laidByText := true, laidKinds := [.data, .data, .data, .data, .data], laidTests := true, laidLooks := .later }
def CertBackUptoCardSaid : Prop := Claim7.holds Tryz.pinned (.plain (OpenSpec.upto certBackSpec)) certBackUptoCard

/-- THE SECOND FORM's CARD OF 'escutcheonlaw17.CertStays'. -/
def certStaysUptoCard : Claim7 := { stood := { row := certStaysUptoRow, standIns := [], harness := (true, "35366bf2f796199d0e699a49bc38ecd0ec7634f80458f4c9d8cb2955367e731e"), looks := true }, kinds := [], alts := [], laidByText := true, laidKinds := [.handle, .data, .data, .data, .data], laidTests := true, laidLooks := .later }
def CertStaysUptoCardSaid : Prop := Claim7.holds Tryz.pinned (.plain (OpenSpec.upto certStaysSpec)) certStaysUptoCard
end Rows
end Go.Proofs.YtdfmoghjimghhaaGreatDoor
