/-
  NARROWER THAN 'FOR EVERY INPUT', by the rows' own cells (each row's printed sentence says how): CrlBodies: laid · CrlEncodes: laid · CrlDecodes: laid · CrlHas: laid · CrlBack: laid.
  DERIVED. THE GIVEN ROWS OF THIS SEAT. 5 by the template 'for every input the law returns true; each argument reads behind the call as it read before'; 0 by the template 'total and deterministic' (their statements: YtkgjlcdefnpkpaaGreatDoorTotals.lean).
  GIVEN WITH THE SEED: the statements are not yours to turn. If you find one false, say at which input.
  Laid BY PROGRAM, IN A SANDBOX (cutbox-rows.mjs): the forced cells as the released guide's own fill.sh prints them over the translation 401d4cadfdcd4de6… (all of the seat's roots in one cut). By AI agents, Wed Nov 11 2026. No macro, syntax, notation, axiom, sorry.
-/
import Derived.Test.YtkgjlcdefnpkpaaGreatDoorChecked
import GoSem.Claim
import GoSem.ClaimJoined
import GoSem.ClaimMapViews
import Derived.JoinedTies
import Derived.KernelRfl
namespace Go.Proofs.YtkgjlcdefnpkpaaGreatDoor
/- THE CELL 'sum', in the pinned program and in every row, IS THE sha256 OF THE DUMP (.gsa) THAT YtkgjlcdefnpkpaaGreatDoorProg.lean LOADS. Nothing in Lean hashes anything: it is a label: what it is worth is what the hold of that sum in a sandbox is worth. -/
noncomputable def Tryz.pinned : Pinned := { name := "ytkgjlcdefnpkpaagreatdoor", sum := "401d4cadfdcd4de6a18972a07011450dfc7472ec31f5cf78c814948cf045de0a", checked := Tryz.checked }
namespace Rows
def none {H : Type} : Left H := { results := [], args := [] }

/- WHAT THE LISTED PACKAGE-LEVEL VARIABLES READ AS WHEN THE CALL BEGINS. Each datum BY PROGRAM (the guide's laid-datum.mjs) off the statement by which the dump's own 'gosem.cut.vars' lays the variable. In a bare row this is a premise. The card (YtkgjlcdefnpkpaaGreatDoorCards.lean) ties it to the program's text. -/
def laid_escutcheon_order_points {H : Type} : DataW H := .agg [.lit (.int .u64 17072048233947408755), .lit (.int .u64 6348401684107011962), .lit (.int .u64 14367412456785391071), .lit (.int .u64 18446744073709551615), .lit (.int .u64 18446744073709551615), .lit (.int .u64 18446744073709551615)]
def laid_errors_errorType {H : Type} : DataW H := .iface "internal/reflectlite.rtype" (.agg [.ptr (.lit (.string [101, 114, 114, 111, 114]))])

/-- 'escutcheonlaw18.CrlBodies': WHATEVER THE INPUT: true; the input reads as it did. -/
def crlBodiesSpec : ChangeSpec := { name := "crlBodies", fn := fun _ => fun
  | [d] => { results := [.lit (.bool true)], args := [d] }
  | _ => none }
def crlBodiesRow : OpenClaim := { program := "ytkgjlcdefnpkpaagreatdoor", sum := "401d4cadfdcd4de6a18972a07011450dfc7472ec31f5cf78c814948cf045de0a", func := "escutcheon/escutcheonlaw18.CrlBodies", spec := "crlBodies", inPlace := ["math/bits.Sub64"], unfollowed := true, recurses := true, named := ["escutcheon/order.points"], apart := false, laid := [("escutcheon/order.points", laid_escutcheon_order_points)] }
def CrlBodiesSaid : Prop := crlBodiesRow.holds Tryz.pinned (OpenSpec.ofChange crlBodiesSpec)

/-- ITS FALSE NEIGHBOUR: 'it returns false'. Refute it at one input. -/
def crlBodiesWrong : ChangeSpec := { name := "crlBodies", fn := fun _ => fun
  | [d] => { results := [.lit (.bool false)], args := [d] }
  | _ => none }
def CrlBodiesWrongFalsely : Prop := crlBodiesRow.holds Tryz.pinned (OpenSpec.ofChange crlBodiesWrong)

/-- 'escutcheonlaw18.CrlEncodes': WHATEVER THE INPUT: true; the input reads as it did. -/
def crlEncodesSpec : ChangeSpec := { name := "crlEncodes", fn := fun _ => fun
  | [d1, d2] => { results := [.lit (.bool true)], args := [d1, d2] }
  | _ => none }
def crlEncodesRow : OpenClaim := { program := "ytkgjlcdefnpkpaagreatdoor", sum := "401d4cadfdcd4de6a18972a07011450dfc7472ec31f5cf78c814948cf045de0a", func := "escutcheon/escutcheonlaw18.CrlEncodes", spec := "crlEncodes", inPlace := ["math/bits.Sub64", "internal/reflectlite.ValueOf", "(internal/reflectlite.Value).Type", "(internal/reflectlite.Value).IsNil", "internal/reflectlite.TypeOf", "(internal/reflectlite.Value).Elem", "(internal/reflectlite.Value).Set"], unfollowed := true, recurses := true, named := ["escutcheon/order.points", "errors.errorType"], apart := false, laid := [("errors.errorType", laid_errors_errorType), ("escutcheon/order.points", laid_escutcheon_order_points)] }
def CrlEncodesSaid : Prop := crlEncodesRow.holds Tryz.pinned (OpenSpec.ofChange crlEncodesSpec)

/-- ITS FALSE NEIGHBOUR: 'it returns false'. Refute it at one input. -/
def crlEncodesWrong : ChangeSpec := { name := "crlEncodes", fn := fun _ => fun
  | [d1, d2] => { results := [.lit (.bool false)], args := [d1, d2] }
  | _ => none }
def CrlEncodesWrongFalsely : Prop := crlEncodesRow.holds Tryz.pinned (OpenSpec.ofChange crlEncodesWrong)

/-- 'escutcheonlaw18.CrlDecodes': WHATEVER THE INPUT: true; the input reads as it did. -/
def crlDecodesSpec : ChangeSpec := { name := "crlDecodes", fn := fun _ => fun
  | [d] => { results := [.lit (.bool true)], args := [d] }
  | _ => none }
def crlDecodesRow : OpenClaim := { program := "ytkgjlcdefnpkpaagreatdoor", sum := "401d4cadfdcd4de6a18972a07011450dfc7472ec31f5cf78c814948cf045de0a", func := "escutcheon/escutcheonlaw18.CrlDecodes", spec := "crlDecodes", inPlace := ["math/bits.Sub64", "internal/reflectlite.ValueOf", "(internal/reflectlite.Value).Type", "(internal/reflectlite.Value).IsNil", "internal/reflectlite.TypeOf", "(internal/reflectlite.Value).Elem", "(internal/reflectlite.Value).Set"], unfollowed := true, recurses := true, named := ["escutcheon/order.points", "errors.errorType"], apart := false, laid := [("errors.errorType", laid_errors_errorType), ("escutcheon/order.points", laid_escutcheon_order_points)] }
def CrlDecodesSaid : Prop := crlDecodesRow.holds Tryz.pinned (OpenSpec.ofChange crlDecodesSpec)

/-- ITS FALSE NEIGHBOUR: 'it returns false'. Refute it at one input. -/
def crlDecodesWrong : ChangeSpec := { name := "crlDecodes", fn := fun _ => fun
  | [d] => { results := [.lit (.bool false)], args := [d] }
  | _ => none }
def CrlDecodesWrongFalsely : Prop := crlDecodesRow.holds Tryz.pinned (OpenSpec.ofChange crlDecodesWrong)

/-- 'escutcheonlaw18.CrlHas': WHATEVER THE INPUT: true; the input reads as it did. -/
def crlHasSpec : ChangeSpec := { name := "crlHas", fn := fun _ => fun
  | [d1, d2] => { results := [.lit (.bool true)], args := [d1, d2] }
  | _ => none }
def crlHasRow : OpenClaim := { program := "ytkgjlcdefnpkpaagreatdoor", sum := "401d4cadfdcd4de6a18972a07011450dfc7472ec31f5cf78c814948cf045de0a", func := "escutcheon/escutcheonlaw18.CrlHas", spec := "crlHas", inPlace := ["math/bits.Sub64"], unfollowed := true, recurses := true, named := ["escutcheon/order.points"], apart := false, laid := [("escutcheon/order.points", laid_escutcheon_order_points)] }
def CrlHasSaid : Prop := crlHasRow.holds Tryz.pinned (OpenSpec.ofChange crlHasSpec)

/-- ITS FALSE NEIGHBOUR: 'it returns false'. Refute it at one input. -/
def crlHasWrong : ChangeSpec := { name := "crlHas", fn := fun _ => fun
  | [d1, d2] => { results := [.lit (.bool false)], args := [d1, d2] }
  | _ => none }
def CrlHasWrongFalsely : Prop := crlHasRow.holds Tryz.pinned (OpenSpec.ofChange crlHasWrong)

/-- 'escutcheonlaw18.CrlBack': WHATEVER THE INPUT: true; the input reads as it did. -/
def crlBackSpec : ChangeSpec := { name := "crlBack", fn := fun _ => fun
  | [d1, d2] => { results := [.lit (.bool true)], args := [d1, d2] }
  | _ => none }
def crlBackRow : OpenClaim := { program := "ytkgjlcdefnpkpaagreatdoor", sum := "401d4cadfdcd4de6a18972a07011450dfc7472ec31f5cf78c814948cf045de0a", func := "escutcheon/escutcheonlaw18.CrlBack", spec := "crlBack", inPlace := ["math/bits.Sub64"], unfollowed := true, recurses := true, named := ["escutcheon/order.points"], apart := false, laid := [("escutcheon/order.points", laid_escutcheon_order_points)] }
def CrlBackSaid : Prop := crlBackRow.holds Tryz.pinned (OpenSpec.ofChange crlBackSpec)

/-- ITS FALSE NEIGHBOUR: 'it returns false'. Refute it at one input. -/
def crlBackWrong : ChangeSpec := { name := "crlBack", fn := fun _ => fun
  | [d1, d2] => { results := [.lit (.bool false)], args := [d1, d2] }
  | _ => none }
def CrlBackWrongFalsely : Prop := crlBackRow.holds Tryz.pinned (OpenSpec.ofChange crlBackWrong)

/- THE SECOND FORM. 'bulk': how many values and letters a reading holds, each counted each time it is reached (what is shared counts as often as it is met; a slice's spare places count too). A statement '..UptoSaid' is the law's where the arguments, and the package variables that the reading takes, are together of bulk at most 1048576: NARROWER than '..Said'. Prove '..Said' where nothing that the law and all that it calls make is longer than what came in: it says more and counts as full. Else prove '..UptoSaid'. A law counts once. -/
mutual
def uptoBulk {H : Type} : DataW H → Nat
  | .lit (.string bytes) => bytes.length + 1
  | .lit _ => 1
  | .nil => 1
  | .ptr d => uptoBulk d + 1
  | .slice elems spare => uptoBulkAll elems + uptoBulkAll spare + 1
  | .agg parts => uptoBulkAll parts + 1
  | .iface _ d => uptoBulk d + 1
  | .map entries => uptoBulkEntries entries + 1
  | .held _ => 1
def uptoBulkAll {H : Type} : List (DataW H) → Nat
  | [] => 0
  | d :: r => uptoBulk d + uptoBulkAll r
def uptoBulkEntries {H : Type} : List (Lit × DataW H) → Nat
  | [] => 0
  | x :: r => uptoBulkEntry x + uptoBulkEntries r
def uptoBulkEntry {H : Type} : Lit × DataW H → Nat
  | (.string bytes, d) => bytes.length + uptoBulk d + 1
  | (_, d) => uptoBulk d + 1
 end
def uptoSmall : (H : Type) → List (DataW H) → Bool := fun _ ds => decide (uptoBulkAll ds ≤ 1048576)
def OpenSpec.upto (s : _root_.Go.ChangeSpec) : _root_.Go.OpenSpec := { _root_.Go.OpenSpec.ofChange s with cond := some uptoSmall }

/-- 'escutcheonlaw18.CrlBodies', WHERE WHAT IT READS IS OF BULK AT MOST 1048576: true; the input reads as it did. -/
def crlBodiesUptoRow : OpenClaim := { program := "ytkgjlcdefnpkpaagreatdoor", sum := "401d4cadfdcd4de6a18972a07011450dfc7472ec31f5cf78c814948cf045de0a", func := "escutcheon/escutcheonlaw18.CrlBodies", spec := "crlBodies", inPlace := ["math/bits.Sub64"], unfollowed := true, recurses := true, named := ["escutcheon/order.points"], apart := false, laid := [("escutcheon/order.points", laid_escutcheon_order_points)], narrowed := true }
def CrlBodiesUptoSaid : Prop := crlBodiesUptoRow.holds Tryz.pinned (OpenSpec.upto crlBodiesSpec)

/-- 'escutcheonlaw18.CrlEncodes', WHERE WHAT IT READS IS OF BULK AT MOST 1048576: true; the input reads as it did. -/
def crlEncodesUptoRow : OpenClaim := { program := "ytkgjlcdefnpkpaagreatdoor", sum := "401d4cadfdcd4de6a18972a07011450dfc7472ec31f5cf78c814948cf045de0a", func := "escutcheon/escutcheonlaw18.CrlEncodes", spec := "crlEncodes", inPlace := ["math/bits.Sub64", "internal/reflectlite.ValueOf", "(internal/reflectlite.Value).Type", "(internal/reflectlite.Value).IsNil", "internal/reflectlite.TypeOf", "(internal/reflectlite.Value).Elem", "(internal/reflectlite.Value).Set"], unfollowed := true, recurses := true, named := ["escutcheon/order.points", "errors.errorType"], apart := false, laid := [("errors.errorType", laid_errors_errorType), ("escutcheon/order.points", laid_escutcheon_order_points)], narrowed := true }
def CrlEncodesUptoSaid : Prop := crlEncodesUptoRow.holds Tryz.pinned (OpenSpec.upto crlEncodesSpec)

/-- 'escutcheonlaw18.CrlDecodes', WHERE WHAT IT READS IS OF BULK AT MOST 1048576: true; the input reads as it did. -/
def crlDecodesUptoRow : OpenClaim := { program := "ytkgjlcdefnpkpaagreatdoor", sum := "401d4cadfdcd4de6a18972a07011450dfc7472ec31f5cf78c814948cf045de0a", func := "escutcheon/escutcheonlaw18.CrlDecodes", spec := "crlDecodes", inPlace := ["math/bits.Sub64", "internal/reflectlite.ValueOf", "(internal/reflectlite.Value).Type", "(internal/reflectlite.Value).IsNil", "internal/reflectlite.TypeOf", "(internal/reflectlite.Value).Elem", "(internal/reflectlite.Value).Set"], unfollowed := true, recurses := true, named := ["escutcheon/order.points", "errors.errorType"], apart := false, laid := [("errors.errorType", laid_errors_errorType), ("escutcheon/order.points", laid_escutcheon_order_points)], narrowed := true }
def CrlDecodesUptoSaid : Prop := crlDecodesUptoRow.holds Tryz.pinned (OpenSpec.upto crlDecodesSpec)

/-- 'escutcheonlaw18.CrlHas', WHERE WHAT IT READS IS OF BULK AT MOST 1048576: true; the input reads as it did. -/
def crlHasUptoRow : OpenClaim := { program := "ytkgjlcdefnpkpaagreatdoor", sum := "401d4cadfdcd4de6a18972a07011450dfc7472ec31f5cf78c814948cf045de0a", func := "escutcheon/escutcheonlaw18.CrlHas", spec := "crlHas", inPlace := ["math/bits.Sub64"], unfollowed := true, recurses := true, named := ["escutcheon/order.points"], apart := false, laid := [("escutcheon/order.points", laid_escutcheon_order_points)], narrowed := true }
def CrlHasUptoSaid : Prop := crlHasUptoRow.holds Tryz.pinned (OpenSpec.upto crlHasSpec)

/-- 'escutcheonlaw18.CrlBack', WHERE WHAT IT READS IS OF BULK AT MOST 1048576: true; the input reads as it did. -/
def crlBackUptoRow : OpenClaim := { program := "ytkgjlcdefnpkpaagreatdoor", sum := "401d4cadfdcd4de6a18972a07011450dfc7472ec31f5cf78c814948cf045de0a", func := "escutcheon/escutcheonlaw18.CrlBack", spec := "crlBack", inPlace := ["math/bits.Sub64"], unfollowed := true, recurses := true, named := ["escutcheon/order.points"], apart := false, laid := [("escutcheon/order.points", laid_escutcheon_order_points)], narrowed := true }
def CrlBackUptoSaid : Prop := crlBackUptoRow.holds Tryz.pinned (OpenSpec.upto crlBackSpec)

end Rows
end Go.Proofs.YtkgjlcdefnpkpaaGreatDoor
