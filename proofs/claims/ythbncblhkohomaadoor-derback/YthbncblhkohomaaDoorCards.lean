/-
  DERIVED. GIVEN WITH THE SEED: THE CARDS: each row of YthbncblhkohomaaDoorRows.lean that lists a variable, with what it lists TIED to the program's text (the seventh form; the later family's looks); each row that meets fmt, with fmt's text TOLD by the authors' own Lean function (tested against real Go, not proved from fmt's source: count such statements apart). THE CARD IS WHAT COUNTS. Prove the row's statement (the work); the ties are given (YthbncblhkohomaaDoorTie.lean); close each card by the builder's one call (the guide's Derived/Test/ToyasCard.lean, 'card_holds'). Laid BY PROGRAM, IN A SANDBOX (cutbox-door.mjs). By AI agents, Wed Nov 11 2026. No macro, syntax, notation, axiom, sorry.
-/
import Derived.Test.YthbncblhkohomaaDoorRows
import GoSem.ClaimSeven
namespace Go.Proofs.YthbncblhkohomaaDoor
namespace Rows

/-- THE TIED CARD OF 'escutcheonlaw12.DerParses'. -/
def derParsesCard : Claim7 := { stood := { row := derParsesRow, standIns := [], harness := (true, "de0e7b372c2652c53513f6b02d98930027952446f4bc02c6ec2590e951ffe2ba"), looks := true }, kinds := [], alts := [], laidByText := true, laidKinds := [.handle], laidTests := true, laidLooks := .later }
def DerParsesCardSaid : Prop := Claim7.holds Tryd.pinned (.plain (OpenSpec.ofChange derParsesSpec)) derParsesCard

/-- THE TIED CARD OF 'escutcheonlaw12.DerWrites'. -/
def derWritesCard : Claim7 := { stood := { row := derWritesRow, standIns := [], harness := (true, "de0e7b372c2652c53513f6b02d98930027952446f4bc02c6ec2590e951ffe2ba"), looks := true }, kinds := [], alts := [], laidByText := true, laidKinds := [.handle], laidTests := true, laidLooks := .later }
def DerWritesCardSaid : Prop := Claim7.holds Tryd.pinned (.plain (OpenSpec.ofChange derWritesSpec)) derWritesCard

/-- THE TIED CARD OF 'escutcheonlaw12.DerLong'. -/
def derLongCard : Claim7 := { stood := { row := derLongRow, standIns := [], harness := (true, "de0e7b372c2652c53513f6b02d98930027952446f4bc02c6ec2590e951ffe2ba"), looks := true }, kinds := [], alts := [], laidByText := true, laidKinds := [.handle], laidTests := true, laidLooks := .later }
def DerLongCardSaid : Prop := Claim7.holds Tryd.pinned (.plain (OpenSpec.ofChange derLongSpec)) derLongCard

/-- THE TIED CARD OF 'escutcheonlaw12.DerDeep'. -/
def derDeepCard : Claim7 := { stood := { row := derDeepRow, standIns := [], harness := (true, "de0e7b372c2652c53513f6b02d98930027952446f4bc02c6ec2590e951ffe2ba"), looks := true }, kinds := [], alts := [], laidByText := true, laidKinds := [.handle], laidTests := true, laidLooks := .later }
def DerDeepCardSaid : Prop := Claim7.holds Tryd.pinned (.plain (OpenSpec.ofChange derDeepSpec)) derDeepCard

/-- THE TIED CARD OF 'escutcheonlaw12.DerBack'. -/
def derBackCard : Claim7 := { stood := { row := derBackRow, standIns := [], harness := (true, "de0e7b372c2652c53513f6b02d98930027952446f4bc02c6ec2590e951ffe2ba"), looks := true }, kinds := [], alts := [], laidByText := true, laidKinds := [.handle], laidTests := true, laidLooks := .later }
def DerBackCardSaid : Prop := Claim7.holds Tryd.pinned (.plain (OpenSpec.ofChange derBackSpec)) derBackCard

/-- THE TIED CARD OF 'escutcheonlaw12.DerOnce'. -/
def derOnceCard : Claim7 := { stood := { row := derOnceRow, standIns := [], harness := (true, "de0e7b372c2652c53513f6b02d98930027952446f4bc02c6ec2590e951ffe2ba"), looks := true }, kinds := [], alts := [], laidByText := true, laidKinds := [.handle], laidTests := true, laidLooks := .later }
def DerOnceCardSaid : Prop := Claim7.holds Tryd.pinned (.plain (OpenSpec.ofChange derOnceSpec)) derOnceCard

/-- THE SECOND FORM's CARD OF 'escutcheonlaw12.DerParses'. -/
def derParsesUptoCard : Claim7 := { stood := { row := derParsesUptoRow, standIns := [], harness := (true, "de0e7b372c2652c53513f6b02d98930027952446f4bc02c6ec2590e951ffe2ba"), looks := true }, kinds := [], alts := [], laidByText := true, laidKinds := [.handle], laidTests := true, laidLooks := .later }
def DerParsesUptoCardSaid : Prop := Claim7.holds Tryd.pinned (.plain (OpenSpec.upto derParsesSpec)) derParsesUptoCard

/-- THE SECOND FORM's CARD OF 'escutcheonlaw12.DerWrites'. -/
def derWritesUptoCard : Claim7 := { stood := { row := derWritesUptoRow, standIns := [], harness := (true, "de0e7b372c2652c53513f6b02d98930027952446f4bc02c6ec2590e951ffe2ba"), looks := true }, kinds := [], alts := [], laidByText := true, laidKinds := [.handle], laidTests := true, laidLooks := .later }
def DerWritesUptoCardSaid : Prop := Claim7.holds Tryd.pinned (.plain (OpenSpec.upto derWritesSpec)) derWritesUptoCard

/-- THE SECOND FORM's CARD OF 'escutcheonlaw12.DerLong'. -/
def derLongUptoCard : Claim7 := { stood := { row := derLongUptoRow, standIns := [], harness := (true, "de0e7b372c2652c53513f6b02d98930027952446f4bc02c6ec2590e951ffe2ba"), looks := true }, kinds := [], alts := [], laidByText := true, laidKinds := [.handle], laidTests := true, laidLooks := .later }
def DerLongUptoCardSaid : Prop := Claim7.holds Tryd.pinned (.plain (OpenSpec.upto derLongSpec)) derLongUptoCard

/-- THE SECOND FORM's CARD OF 'escutcheonlaw12.DerDeep'. -/
def derDeepUptoCard : Claim7 := { stood := { row := derDeepUptoRow, standIns := [], harness := (true, "de0e7b372c2652c53513f6b02d98930027952446f4bc02c6ec2590e951ffe2ba"), looks := true }, kinds := [], alts := [], laidByText := true, laidKinds := [.handle], laidTests := true, laidLooks := .later }
def DerDeepUptoCardSaid : Prop := Claim7.holds Tryd.pinned (.plain (OpenSpec.upto derDeepSpec)) derDeepUptoCard

/-- THE SECOND FORM's CARD OF 'escutcheonlaw12.DerBack'. -/
def derBackUptoCard : Claim7 := { stood := { row := derBackUptoRow, standIns := [], harness := (true, "de0e7b372c2652c53513f6b02d98930027952446f4bc02c6ec2590e951ffe2ba"), looks := true }, kinds := [], alts := [], laidByText := true, laidKinds := [.handle], laidTests := true, laidLooks := .later }
def DerBackUptoCardSaid : Prop := Claim7.holds Tryd.pinned (.plain (OpenSpec.upto derBackSpec)) derBackUptoCard

/-- THE SECOND FORM's CARD OF 'escutcheonlaw12.DerOnce'. -/
def derOnceUptoCard : Claim7 := { stood := { row := derOnceUptoRow, standIns := [], harness := (true, "de0e7b372c2652c53513f6b02d98930027952446f4bc02c6ec2590e951ffe2ba"), looks := true }, kinds := [], alts := [], laidByText := true, laidKinds := [.handle], laidTests := true, laidLooks := .later }
def DerOnceUptoCardSaid : Prop := Claim7.holds Tryd.pinned (.plain (OpenSpec.upto derOnceSpec)) derOnceUptoCard
end Rows
end Go.Proofs.YthbncblhkohomaaDoor
