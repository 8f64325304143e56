/-
  DERIVED. GIVEN WITH THE SEED: THE CARDS: each row of YtpgidlnpcjbfhabDoorRows.lean that lists a variable, with what it lists TIED to the program's text (the seventh form; the later family's looks); each row that meets fmt, with fmt's text TOLD by the authors' own Lean function (tested against real Go, not proved from fmt's source: count such statements apart). THE CARD IS WHAT COUNTS. Prove the row's statement (the work); the ties are given (YtpgidlnpcjbfhabDoorTie.lean); close each card by the builder's one call (the guide's Derived/Test/ToyasCard.lean, 'card_holds'). Laid BY PROGRAM, IN A SANDBOX (cutbox-door.mjs). By AI agents, Wed Nov 11 2026. No macro, syntax, notation, axiom, sorry.
-/
import Derived.Test.YtpgidlnpcjbfhabDoorRows
import GoSem.ClaimSeven
namespace Go.Proofs.YtpgidlnpcjbfhabDoor
namespace Rows

/-- THE TIED CARD OF 'escutcheonlaw05.CurveBack'. -/
def curveBackCard : Claim7 := { stood := { row := curveBackRow, standIns := [], harness := (true, "69d36bbebbc50d5bc0ced8e8dcdfccdf4998038878c0fc401c0d9484be1788d5"), looks := false }, kinds := [], alts := [], laidByText := true, laidKinds := [.data, .data, .data, .data], laidTests := true, laidLooks := .later }
def CurveBackCardSaid : Prop := Claim7.holds Tryd.pinned (.plain (OpenSpec.ofChange curveBackSpec)) curveBackCard

/-- THE TIED CARD OF 'escutcheonlaw05.CurveLaws'. -/
def curveLawsCard : Claim7 := { stood := { row := curveLawsRow, standIns := [], harness := (true, "69d36bbebbc50d5bc0ced8e8dcdfccdf4998038878c0fc401c0d9484be1788d5"), looks := false }, kinds := [], alts := [], laidByText := true, laidKinds := [.data, .data, .data, .data], laidTests := true, laidLooks := .later }
def CurveLawsCardSaid : Prop := Claim7.holds Tryd.pinned (.plain (OpenSpec.ofChange curveLawsSpec)) curveLawsCard

/-- THE SECOND FORM's CARD OF 'escutcheonlaw05.CurveBack'. -/
def curveBackUptoCard : Claim7 := { stood := { row := curveBackUptoRow, standIns := [], harness := (true, "69d36bbebbc50d5bc0ced8e8dcdfccdf4998038878c0fc401c0d9484be1788d5"), looks := false }, kinds := [], alts := [], laidByText := true, laidKinds := [.data, .data, .data, .data], laidTests := true, laidLooks := .later }
def CurveBackUptoCardSaid : Prop := Claim7.holds Tryd.pinned (.plain (OpenSpec.upto curveBackSpec)) curveBackUptoCard

/-- THE SECOND FORM's CARD OF 'escutcheonlaw05.CurveLaws'. -/
def curveLawsUptoCard : Claim7 := { stood := { row := curveLawsUptoRow, standIns := [], harness := (true, "69d36bbebbc50d5bc0ced8e8dcdfccdf4998038878c0fc401c0d9484be1788d5"), looks := false }, kinds := [], alts := [], laidByText := true, laidKinds := [.data, .data, .data, .data], laidTests := true, laidLooks := .later }
def CurveLawsUptoCardSaid : Prop := Claim7.holds Tryd.pinned (.plain (OpenSpec.upto curveLawsSpec)) curveLawsUptoCard
end Rows
end Go.Proofs.YtpgidlnpcjbfhabDoor
