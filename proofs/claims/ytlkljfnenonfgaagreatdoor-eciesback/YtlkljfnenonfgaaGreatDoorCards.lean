/-
  DERIVED. GIVEN WITH THE SEED: THE CARDS: each row of YtlkljfnenonfgaaGreatDoorRows.lean that lists a variable, with what it lists TIED to the program's text (the seventh form; the later family's looks); each row that meets fmt, with fmt's text TOLD by the authors' own Lean function (tested against real Go, not proved from fmt's source: count such statements apart). THE CARD IS WHAT COUNTS. Prove the row's statement (the work); the ties are given (YtlkljfnenonfgaaGreatDoorTie.lean); close each card by the builder's one call (the guide's Derived/Test/ToyasCard.lean, 'card_holds'). Laid BY PROGRAM, IN A SANDBOX (cutbox-door.mjs). By AI agents, Wed Nov 11 2026. No macro, syntax, notation, axiom, sorry.
-/
import Derived.Test.YtlkljfnenonfgaaGreatDoorRows
import GoSem.ClaimSeven
namespace Go.Proofs.YtlkljfnenonfgaaGreatDoor
namespace Rows

/-- THE TIED CARD OF 'escutcheonlaw15.EciesWraps'. -/
def eciesWrapsCard : Claim7 := { stood := { row := eciesWrapsRow, standIns := [], harness := (true, "710ecba8553553984f9e38d28b604eb187ae70843293e073ac8e93922fcad605"), looks := true }, kinds := [], alts := [], laidByText := true, laidKinds := [.data, .data, .data, .data, .data, .data, .data, .data], laidTests := true, laidLooks := .later }
def EciesWrapsCardSaid : Prop := Claim7.holds Tryz.pinned (.plain (OpenSpec.ofChange eciesWrapsSpec)) eciesWrapsCard

/-- THE TIED CARD OF 'escutcheonlaw15.EciesUnwraps'. -/
def eciesUnwrapsCard : Claim7 := { stood := { row := eciesUnwrapsRow, standIns := [], harness := (true, "710ecba8553553984f9e38d28b604eb187ae70843293e073ac8e93922fcad605"), looks := true }, kinds := [], alts := [], laidByText := true, laidKinds := [.handle, .data, .data, .data, .data, .data, .data, .data, .data], laidTests := true, laidLooks := .later }
def EciesUnwrapsCardSaid : Prop := Claim7.holds Tryz.pinned (.plain (OpenSpec.ofChange eciesUnwrapsSpec)) eciesUnwrapsCard

/-- THE TIED CARD OF 'escutcheonlaw15.EciesBack'. -/
def eciesBackCard : Claim7 := { stood := { row := eciesBackRow, standIns := [], harness := (true, "710ecba8553553984f9e38d28b604eb187ae70843293e073ac8e93922fcad605"), looks := true }, kinds := [], alts := [], laidByText := true, laidKinds := [.data, .data, .data, .data, .data, .data, .data, .data], laidTests := true, laidLooks := .later }
def EciesBackCardSaid : Prop := Claim7.holds Tryz.pinned (.plain (OpenSpec.ofChange eciesBackSpec)) eciesBackCard

/-- THE SECOND FORM's CARD OF 'escutcheonlaw15.EciesWraps'. -/
def eciesWrapsUptoCard : Claim7 := { stood := { row := eciesWrapsUptoRow, standIns := [], harness := (true, "710ecba8553553984f9e38d28b604eb187ae70843293e073ac8e93922fcad605"), looks := true }, kinds := [], alts := [], laidByText := true, laidKinds := [.data, .data, .data, .data, .data, .data, .data, .data], laidTests := true, laidLooks := .later }
def EciesWrapsUptoCardSaid : Prop := Claim7.holds Tryz.pinned (.plain (OpenSpec.upto eciesWrapsSpec)) eciesWrapsUptoCard

/-- THE SECOND FORM's CARD OF 'escutcheonlaw15.EciesUnwraps'. -/
def eciesUnwrapsUptoCard : Claim7 := { stood := { row := eciesUnwrapsUptoRow, standIns := [], harness := (true, "710ecba8553553984f9e38d28b604eb187ae70843293e073ac8e93922fcad605"), looks := true }, kinds := [], alts := [], laidByText := true, laidKinds := [.handle, .data, .data, .data, .data, .data, .data, .data, .data], laidTests := true, laidLooks := .later }
def EciesUnwrapsUptoCardSaid : Prop := Claim7.holds Tryz.pinned (.plain (OpenSpec.upto eciesUnwrapsSpec)) eciesUnwrapsUptoCard

/-- THE SECOND FORM's CARD OF 'escutcheonlaw15.EciesBack'. -/
def eciesBackUptoCard : Claim7 := { stood := { row := eciesBackUptoRow, standIns := [], harness := (true, "710ecba8553553984f9e38d28b604eb187ae70843293e073ac8e93922fcad605"), looks := true }, kinds := [], alts := [], laidByText := true, laidKinds := [.data, .data, .data, .data, .data, .data, .data, .data], laidTests := true, laidLooks := .later }
def EciesBackUptoCardSaid : Prop := Claim7.holds Tryz.pinned (.plain (OpenSpec.upto eciesBackSpec)) eciesBackUptoCard
end Rows
end Go.Proofs.YtlkljfnenonfgaaGreatDoor
