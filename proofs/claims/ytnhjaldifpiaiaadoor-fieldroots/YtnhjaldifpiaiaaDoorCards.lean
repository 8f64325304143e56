/-
  DERIVED. GIVEN WITH THE SEED: THE CARDS: each row of YtnhjaldifpiaiaaDoorRows.lean that lists a variable, with what it lists TIED to the program's text (the seventh form; the later family's looks); each row that meets fmt, with fmt's text TOLD by the authors' own Lean function (tested against real Go, not proved from fmt's source: count such statements apart). THE CARD IS WHAT COUNTS. Prove the row's statement (the work); the ties are given (YtnhjaldifpiaiaaDoorTie.lean); close each card by the builder's one call (the guide's Derived/Test/ToyasCard.lean, 'card_holds'). Laid BY PROGRAM, IN A SANDBOX (cutbox-door.mjs). By AI agents, Wed Nov 11 2026. No macro, syntax, notation, axiom, sorry.
-/
import Derived.Test.YtnhjaldifpiaiaaDoorRows
import GoSem.ClaimSeven
namespace Go.Proofs.YtnhjaldifpiaiaaDoor
namespace Rows

/-- THE TIED CARD OF 'escutcheonlaw03.FieldRoots'. -/
def fieldRootsCard : Claim7 := { stood := { row := fieldRootsRow, standIns := [], harness := (true, "921d8c417ccf55eeb401d0721f2710e5293c6ceaa4888805226eec6e6db9ca35"), looks := true }, kinds := [], alts := [], laidByText := true, laidKinds := [.data, .data], laidTests := true, laidLooks := .later }
def FieldRootsCardSaid : Prop := Claim7.holds Tryd.pinned (.plain (OpenSpec.ofChange fieldRootsSpec)) fieldRootsCard

/-- THE TIED CARD OF 'escutcheonlaw04.OrderSums'. -/
def orderSumsCard : Claim7 := { stood := { row := orderSumsRow, standIns := [], harness := (true, "921d8c417ccf55eeb401d0721f2710e5293c6ceaa4888805226eec6e6db9ca35"), looks := true }, kinds := [], alts := [], laidByText := true, laidKinds := [.data, .data], laidTests := true, laidLooks := .later }
def OrderSumsCardSaid : Prop := Claim7.holds Tryd.pinned (.plain (OpenSpec.ofChange orderSumsSpec)) orderSumsCard

/-- THE TIED CARD OF 'escutcheonlaw04.OrderMuls'. -/
def orderMulsCard : Claim7 := { stood := { row := orderMulsRow, standIns := [], harness := (true, "921d8c417ccf55eeb401d0721f2710e5293c6ceaa4888805226eec6e6db9ca35"), looks := true }, kinds := [], alts := [], laidByText := true, laidKinds := [.data, .data], laidTests := true, laidLooks := .later }
def OrderMulsCardSaid : Prop := Claim7.holds Tryd.pinned (.plain (OpenSpec.ofChange orderMulsSpec)) orderMulsCard

/-- THE TIED CARD OF 'escutcheonlaw04.OrderInvs'. -/
def orderInvsCard : Claim7 := { stood := { row := orderInvsRow, standIns := [], harness := (true, "921d8c417ccf55eeb401d0721f2710e5293c6ceaa4888805226eec6e6db9ca35"), looks := true }, kinds := [], alts := [], laidByText := true, laidKinds := [.data, .data], laidTests := true, laidLooks := .later }
def OrderInvsCardSaid : Prop := Claim7.holds Tryd.pinned (.plain (OpenSpec.ofChange orderInvsSpec)) orderInvsCard

/-- THE TIED CARD OF 'escutcheonlaw04.OrderDecodes'. -/
def orderDecodesCard : Claim7 := { stood := { row := orderDecodesRow, standIns := [], harness := (true, "921d8c417ccf55eeb401d0721f2710e5293c6ceaa4888805226eec6e6db9ca35"), looks := true }, kinds := [], alts := [], laidByText := true, laidKinds := [.data, .data], laidTests := true, laidLooks := .later }
def OrderDecodesCardSaid : Prop := Claim7.holds Tryd.pinned (.plain (OpenSpec.ofChange orderDecodesSpec)) orderDecodesCard

/-- THE SECOND FORM's CARD OF 'escutcheonlaw03.FieldRoots'. -/
def fieldRootsUptoCard : Claim7 := { stood := { row := fieldRootsUptoRow, standIns := [], harness := (true, "921d8c417ccf55eeb401d0721f2710e5293c6ceaa4888805226eec6e6db9ca35"), looks := true }, kinds := [], alts := [], laidByText := true, laidKinds := [.data, .data], laidTests := true, laidLooks := .later }
def FieldRootsUptoCardSaid : Prop := Claim7.holds Tryd.pinned (.plain (OpenSpec.upto fieldRootsSpec)) fieldRootsUptoCard

/-- THE SECOND FORM's CARD OF 'escutcheonlaw04.OrderSums'. -/
def orderSumsUptoCard : Claim7 := { stood := { row := orderSumsUptoRow, standIns := [], harness := (true, "921d8c417ccf55eeb401d0721f2710e5293c6ceaa4888805226eec6e6db9ca35"), looks := true }, kinds := [], alts := [], laidByText := true, laidKinds := [.data, .data], laidTests := true, laidLooks := .later }
def OrderSumsUptoCardSaid : Prop := Claim7.holds Tryd.pinned (.plain (OpenSpec.upto orderSumsSpec)) orderSumsUptoCard

/-- THE SECOND FORM's CARD OF 'escutcheonlaw04.OrderMuls'. -/
def orderMulsUptoCard : Claim7 := { stood := { row := orderMulsUptoRow, standIns := [], harness := (true, "921d8c417ccf55eeb401d0721f2710e5293c6ceaa4888805226eec6e6db9ca35"), looks := true }, kinds := [], alts := [], laidByText := true, laidKinds := [.data, .data], laidTests := true, laidLooks := .later }
def OrderMulsUptoCardSaid : Prop := Claim7.holds Tryd.pinned (.plain (OpenSpec.upto orderMulsSpec)) orderMulsUptoCard

/-- THE SECOND FORM's CARD OF 'escutcheonlaw04.OrderInvs'. -/
def orderInvsUptoCard : Claim7 := { stood := { row := orderInvsUptoRow, standIns := [], harness := (true, "921d8c417ccf55eeb401d0721f2710e5293c6ceaa4888805226eec6e6db9ca35"), looks := true }, kinds := [], alts := [], laidByText := true, laidKinds := [.data, .data], laidTests := true, laidLooks := .later }
def OrderInvsUptoCardSaid : Prop := Claim7.holds Tryd.pinned (.plain (OpenSpec.upto orderInvsSpec)) orderInvsUptoCard

/-- THE SECOND FORM's CARD OF 'escutcheonlaw04.OrderDecodes'. -/
def orderDecodesUptoCard : Claim7 := { stood := { row := orderDecodesUptoRow, standIns := [], harness := (true, "921d8c417ccf55eeb401d0721f2710e5293c6ceaa4888805226eec6e6db9ca35"), looks := true }, kinds := [], alts := [], laidByText := true, laidKinds := [.data, .data], laidTests := true, laidLooks := .later }
def OrderDecodesUptoCardSaid : Prop := Claim7.holds Tryd.pinned (.plain (OpenSpec.upto orderDecodesSpec)) orderDecodesUptoCard
end Rows
end Go.Proofs.YtnhjaldifpiaiaaDoor
