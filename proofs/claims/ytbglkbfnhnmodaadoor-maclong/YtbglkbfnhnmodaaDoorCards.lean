/-
  DERIVED. GIVEN WITH THE SEED: THE CARDS: each row of YtbglkbfnhnmodaaDoorRows.lean that lists a variable, with what it lists TIED to the program's text (the seventh form; the later family's looks); each row that meets fmt, with fmt's text TOLD by the authors' own Lean function (tested against real Go, not proved from fmt's source: count such statements apart). THE CARD IS WHAT COUNTS. Prove the row's statement (the work); the ties are given (YtbglkbfnhnmodaaDoorTie.lean); close each card by the builder's one call (the guide's Derived/Test/ToyasCard.lean, 'card_holds'). Laid BY PROGRAM, IN A SANDBOX (cutbox-door.mjs). By AI agents, Wed Nov 11 2026. No macro, syntax, notation, axiom, sorry.
-/
import Derived.Test.YtbglkbfnhnmodaaDoorRows
import GoSem.ClaimSeven
namespace Go.Proofs.YtbglkbfnhnmodaaDoor
namespace Rows

/-- THE TIED CARD OF 'escutcheonlaw08.MacHmacs'. -/
def macHmacsCard : Claim7 := { stood := { row := macHmacsRow, standIns := [], harness := (true, "4bbd92d975b314ad6d3795c00c6d4354edea05d0087c3f07e567272113ba1d1a"), looks := true }, kinds := [], alts := [], laidByText := true, laidKinds := [.data, .data], laidTests := true, laidLooks := .later }
def MacHmacsCardSaid : Prop := Claim7.holds Tryd.pinned (.plain (OpenSpec.ofChange macHmacsSpec)) macHmacsCard

/-- THE TIED CARD OF 'escutcheonlaw08.MacExtracts'. -/
def macExtractsCard : Claim7 := { stood := { row := macExtractsRow, standIns := [], harness := (true, "4bbd92d975b314ad6d3795c00c6d4354edea05d0087c3f07e567272113ba1d1a"), looks := true }, kinds := [], alts := [], laidByText := true, laidKinds := [.data, .data], laidTests := true, laidLooks := .later }
def MacExtractsCardSaid : Prop := Claim7.holds Tryd.pinned (.plain (OpenSpec.ofChange macExtractsSpec)) macExtractsCard

/-- THE TIED CARD OF 'escutcheonlaw08.MacExpands'. -/
def macExpandsCard : Claim7 := { stood := { row := macExpandsRow, standIns := [], harness := (true, "4bbd92d975b314ad6d3795c00c6d4354edea05d0087c3f07e567272113ba1d1a"), looks := true }, kinds := [], alts := [], laidByText := true, laidKinds := [.data, .data], laidTests := true, laidLooks := .later }
def MacExpandsCardSaid : Prop := Claim7.holds Tryd.pinned (.plain (OpenSpec.ofChange macExpandsSpec)) macExpandsCard

/-- THE TIED CARD OF 'escutcheonlaw08.MacLong'. -/
def macLongCard : Claim7 := { stood := { row := macLongRow, standIns := [], harness := (true, "4bbd92d975b314ad6d3795c00c6d4354edea05d0087c3f07e567272113ba1d1a"), looks := true }, kinds := [], alts := [], laidByText := true, laidKinds := [.data, .data], laidTests := true, laidLooks := .later }
def MacLongCardSaid : Prop := Claim7.holds Tryd.pinned (.plain (OpenSpec.ofChange macLongSpec)) macLongCard

/-- THE SECOND FORM's CARD OF 'escutcheonlaw08.MacHmacs'. -/
def macHmacsUptoCard : Claim7 := { stood := { row := macHmacsUptoRow, standIns := [], harness := (true, "4bbd92d975b314ad6d3795c00c6d4354edea05d0087c3f07e567272113ba1d1a"), looks := true }, kinds := [], alts := [], laidByText := true, laidKinds := [.data, .data], laidTests := true, laidLooks := .later }
def MacHmacsUptoCardSaid : Prop := Claim7.holds Tryd.pinned (.plain (OpenSpec.upto macHmacsSpec)) macHmacsUptoCard

/-- THE SECOND FORM's CARD OF 'escutcheonlaw08.MacExtracts'. -/
def macExtractsUptoCard : Claim7 := { stood := { row := macExtractsUptoRow, standIns := [], harness := (true, "4bbd92d975b314ad6d3795c00c6d4354edea05d0087c3f07e567272113ba1d1a"), looks := true }, kinds := [], alts := [], laidByText := true, laidKinds := [.data, .data], laidTests := true, laidLooks := .later }
def MacExtractsUptoCardSaid : Prop := Claim7.holds Tryd.pinned (.plain (OpenSpec.upto macExtractsSpec)) macExtractsUptoCard

/-- THE SECOND FORM's CARD OF 'escutcheonlaw08.MacExpands'. -/
def macExpandsUptoCard : Claim7 := { stood := { row := macExpandsUptoRow, standIns := [], harness := (true, "4bbd92d975b314ad6d3795c00c6d4354edea05d0087c3f07e567272113ba1d1a"), looks := true }, kinds := [], alts := [], laidByText := true, laidKinds := [.data, .data], laidTests := true, laidLooks := .later }
def MacExpandsUptoCardSaid : Prop := Claim7.holds Tryd.pinned (.plain (OpenSpec.upto macExpandsSpec)) macExpandsUptoCard

/-- THE SECOND FORM's CARD OF 'escutcheonlaw08.MacLong'. -/
def macLongUptoCard : Claim7 := { stood := { row := macLongUptoRow, standIns := [], harness := (true, "4bbd92d975b314ad6d3795c00c6d4354edea05d0087c3f07e567272113ba1d1a"), looks := true }, kinds := [], alts := [], laidByText := true, laidKinds := [.data, .data], laidTests := true, laidLooks := .later }
def MacLongUptoCardSaid : Prop := Claim7.holds Tryd.pinned (.plain (OpenSpec.upto macLongSpec)) macLongUptoCard
end Rows
end Go.Proofs.YtbglkbfnhnmodaaDoor
