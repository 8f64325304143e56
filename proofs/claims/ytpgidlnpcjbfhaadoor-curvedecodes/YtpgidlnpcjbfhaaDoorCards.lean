/-
  DERIVED. GIVEN WITH THE SEED: THE CARDS: each row of YtpgidlnpcjbfhaaDoorRows.lean that lists a variable, with what it lists TIED to the program's text (the seventh form; the later family's looks); each row that meets fmt, with fmt's text TOLD by the authors' own Lean function (tested against real Go, not proved from fmt's source: count such statements apart). THE CARD IS WHAT COUNTS. Prove the row's statement (the work); the ties are given (YtpgidlnpcjbfhaaDoorTie.lean); close each card by the builder's one call (the guide's Derived/Test/ToyasCard.lean, 'card_holds'). Laid BY PROGRAM, IN A SANDBOX (cutbox-door.mjs). By AI agents, Wed Nov 11 2026. No macro, syntax, notation, axiom, sorry.
-/
import Derived.Test.YtpgidlnpcjbfhaaDoorRows
import GoSem.ClaimSeven
namespace Go.Proofs.YtpgidlnpcjbfhaaDoor
namespace Rows

/-- THE TIED CARD OF 'escutcheonlaw05.CurveOn'. -/
def curveOnCard : Claim7 := { stood := { row := curveOnRow, standIns := [], harness := (true, "f13219900475c7d415d68bed0bb095235ce2649843e1cc0cf9de82620687668a"), looks := true }, kinds := [], alts := [], laidByText := true, laidKinds := [.data, .data, .data, .data], laidTests := true, laidLooks := .later }
def CurveOnCardSaid : Prop := Claim7.holds Tryd.pinned (.plain (OpenSpec.ofChange curveOnSpec)) curveOnCard

/-- THE TIED CARD OF 'escutcheonlaw05.CurveAdds'. -/
def curveAddsCard : Claim7 := { stood := { row := curveAddsRow, standIns := [], harness := (true, "f13219900475c7d415d68bed0bb095235ce2649843e1cc0cf9de82620687668a"), looks := true }, kinds := [], alts := [], laidByText := true, laidKinds := [.data, .data, .data, .data], laidTests := true, laidLooks := .later }
def CurveAddsCardSaid : Prop := Claim7.holds Tryd.pinned (.plain (OpenSpec.ofChange curveAddsSpec)) curveAddsCard

/-- THE TIED CARD OF 'escutcheonlaw05.CurveSums'. -/
def curveSumsCard : Claim7 := { stood := { row := curveSumsRow, standIns := [], harness := (true, "f13219900475c7d415d68bed0bb095235ce2649843e1cc0cf9de82620687668a"), looks := true }, kinds := [], alts := [], laidByText := true, laidKinds := [.data, .data, .data, .data], laidTests := true, laidLooks := .later }
def CurveSumsCardSaid : Prop := Claim7.holds Tryd.pinned (.plain (OpenSpec.ofChange curveSumsSpec)) curveSumsCard

/-- THE TIED CARD OF 'escutcheonlaw05.CurveNegs'. -/
def curveNegsCard : Claim7 := { stood := { row := curveNegsRow, standIns := [], harness := (true, "f13219900475c7d415d68bed0bb095235ce2649843e1cc0cf9de82620687668a"), looks := true }, kinds := [], alts := [], laidByText := true, laidKinds := [.data, .data, .data, .data], laidTests := true, laidLooks := .later }
def CurveNegsCardSaid : Prop := Claim7.holds Tryd.pinned (.plain (OpenSpec.ofChange curveNegsSpec)) curveNegsCard

/-- THE TIED CARD OF 'escutcheonlaw05.CurveEncodes'. -/
def curveEncodesCard : Claim7 := { stood := { row := curveEncodesRow, standIns := [], harness := (true, "f13219900475c7d415d68bed0bb095235ce2649843e1cc0cf9de82620687668a"), looks := true }, kinds := [], alts := [], laidByText := true, laidKinds := [.data, .data, .data, .data], laidTests := true, laidLooks := .later }
def CurveEncodesCardSaid : Prop := Claim7.holds Tryd.pinned (.plain (OpenSpec.ofChange curveEncodesSpec)) curveEncodesCard

/-- THE TIED CARD OF 'escutcheonlaw05.CurveDecodes'. -/
def curveDecodesCard : Claim7 := { stood := { row := curveDecodesRow, standIns := [], harness := (true, "f13219900475c7d415d68bed0bb095235ce2649843e1cc0cf9de82620687668a"), looks := true }, kinds := [], alts := [], laidByText := true, laidKinds := [.data, .data, .data, .data], laidTests := true, laidLooks := .later }
def CurveDecodesCardSaid : Prop := Claim7.holds Tryd.pinned (.plain (OpenSpec.ofChange curveDecodesSpec)) curveDecodesCard

/-- THE SECOND FORM's CARD OF 'escutcheonlaw05.CurveOn'. -/
def curveOnUptoCard : Claim7 := { stood := { row := curveOnUptoRow, standIns := [], harness := (true, "f13219900475c7d415d68bed0bb095235ce2649843e1cc0cf9de82620687668a"), looks := true }, kinds := [], alts := [], laidByText := true, laidKinds := [.data, .data, .data, .data], laidTests := true, laidLooks := .later }
def CurveOnUptoCardSaid : Prop := Claim7.holds Tryd.pinned (.plain (OpenSpec.upto curveOnSpec)) curveOnUptoCard

/-- THE SECOND FORM's CARD OF 'escutcheonlaw05.CurveAdds'. -/
def curveAddsUptoCard : Claim7 := { stood := { row := curveAddsUptoRow, standIns := [], harness := (true, "f13219900475c7d415d68bed0bb095235ce2649843e1cc0cf9de82620687668a"), looks := true }, kinds := [], alts := [], laidByText := true, laidKinds := [.data, .data, .data, .data], laidTests := true, laidLooks := .later }
def CurveAddsUptoCardSaid : Prop := Claim7.holds Tryd.pinned (.plain (OpenSpec.upto curveAddsSpec)) curveAddsUptoCard

/-- THE SECOND FORM's CARD OF 'escutcheonlaw05.CurveSums'. -/
def curveSumsUptoCard : Claim7 := { stood := { row := curveSumsUptoRow, standIns := [], harness := (true, "f13219900475c7d415d68bed0bb095235ce2649843e1cc0cf9de82620687668a"), looks := true }, kinds := [], alts := [], laidByText := true, laidKinds := [.data, .data, .data, .data], laidTests := true, laidLooks := .later }
def CurveSumsUptoCardSaid : Prop := Claim7.holds Tryd.pinned (.plain (OpenSpec.upto curveSumsSpec)) curveSumsUptoCard

/-- THE SECOND FORM's CARD OF 'escutcheonlaw05.CurveNegs'. -/
def curveNegsUptoCard : Claim7 := { stood := { row := curveNegsUptoRow, standIns := [], harness := (true, "f13219900475c7d415d68bed0bb095235ce2649843e1cc0cf9de82620687668a"), looks := true }, kinds := [], alts := [], laidByText := true, laidKinds := [.data, .data, .data, .data], laidTests := true, laidLooks := .later }
def CurveNegsUptoCardSaid : Prop := Claim7.holds Tryd.pinned (.plain (OpenSpec.upto curveNegsSpec)) curveNegsUptoCard

/-- THE SECOND FORM's CARD OF 'escutcheonlaw05.CurveEncodes'. -/
def curveEncodesUptoCard : Claim7 := { stood := { row := curveEncodesUptoRow, standIns := [], harness := (true, "f13219900475c7d415d68bed0bb095235ce2649843e1cc0cf9de82620687668a"), looks := true }, kinds := [], alts := [], laidByText := true, laidKinds := [.data, .data, .data, .data], laidTests := true, laidLooks := .later }
def CurveEncodesUptoCardSaid : Prop := Claim7.holds Tryd.pinned (.plain (OpenSpec.upto curveEncodesSpec)) curveEncodesUptoCard

/-- THE SECOND FORM's CARD OF 'escutcheonlaw05.CurveDecodes'. -/
def curveDecodesUptoCard : Claim7 := { stood := { row := curveDecodesUptoRow, standIns := [], harness := (true, "f13219900475c7d415d68bed0bb095235ce2649843e1cc0cf9de82620687668a"), looks := true }, kinds := [], alts := [], laidByText := true, laidKinds := [.data, .data, .data, .data], laidTests := true, laidLooks := .later }
def CurveDecodesUptoCardSaid : Prop := Claim7.holds Tryd.pinned (.plain (OpenSpec.upto curveDecodesSpec)) curveDecodesUptoCard
end Rows
end Go.Proofs.YtpgidlnpcjbfhaaDoor
