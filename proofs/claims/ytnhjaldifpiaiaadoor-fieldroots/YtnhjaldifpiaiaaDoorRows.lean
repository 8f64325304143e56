/-
  NARROWER THAN 'FOR EVERY INPUT', by the rows' own cells (each row's printed sentence says how): FieldRoots: laid · OrderSums: laid · OrderMuls: laid · OrderInvs: laid · OrderDecodes: laid.
  DERIVED. THE GIVEN ROWS OF THIS SEAT. 5 by the template 'for every input the law returns true; each argument reads behind the call as it read before'; 0 by the template 'total and deterministic' (their statements: YtnhjaldifpiaiaaDoorTotals.lean).
  GIVEN WITH THE SEED: the statements are not yours to turn. If you find one false, say at which input.
  Laid BY PROGRAM, IN A SANDBOX (cutbox-rows.mjs): the forced cells as the released guide's own fill.sh prints them over the translation 113741ed9ab5fcbe… (all of the seat's roots in one cut). By AI agents, Wed Nov 11 2026. No macro, syntax, notation, axiom, sorry.
-/
import Derived.Test.YtnhjaldifpiaiaaDoorChecked
import GoSem.Claim
import GoSem.ClaimJoined
import GoSem.ClaimMapViews
import Derived.JoinedTies
import Derived.KernelRfl
namespace Go.Proofs.YtnhjaldifpiaiaaDoor
/- THE CELL 'sum', in the pinned program and in every row, IS THE sha256 OF THE DUMP (.gsa) THAT YtnhjaldifpiaiaaDoorProg.lean LOADS. Nothing in Lean hashes anything: it is a label: what it is worth is what the hold of that sum in a sandbox is worth. -/
noncomputable def Tryd.pinned : Pinned := { name := "ytnhjaldifpiaiaadoor", sum := "113741ed9ab5fcbeb12d275272bead38c9b79c63082f2c6b73135214c6aebca3", checked := Tryd.checked }
namespace Rows
def none {H : Type} : Left H := { results := [], args := [] }

/- WHAT THE LISTED PACKAGE-LEVEL VARIABLES READ AS WHEN THE CALL BEGINS. Each datum BY PROGRAM (the guide's laid-datum.mjs) off the statement by which the dump's own 'gosem.cut.vars' lays the variable. In a bare row this is a premise. The card (YtnhjaldifpiaiaaDoorCards.lean) ties it to the program's text. -/
def laid_escutcheon_field_prime {H : Type} : DataW H := .agg [.lit (.int .u64 4294967295), .lit (.int .u64 18446744069414584320), .lit (.int .u64 18446744073709551614), .lit (.int .u64 18446744073709551615), .lit (.int .u64 18446744073709551615), .lit (.int .u64 18446744073709551615)]
def laid_escutcheon_field_squareOfR {H : Type} : DataW H := .agg [.lit (.int .u64 18446744065119617025), .lit (.int .u64 8589934592), .lit (.int .u64 18446744065119617024), .lit (.int .u64 8589934592), .lit (.int .u64 1), .lit (.int .u64 0)]
def laid_escutcheon_order_points {H : Type} : DataW H := .agg [.lit (.int .u64 17072048233947408755), .lit (.int .u64 6348401684107011962), .lit (.int .u64 14367412456785391071), .lit (.int .u64 18446744073709551615), .lit (.int .u64 18446744073709551615), .lit (.int .u64 18446744073709551615)]
def laid_escutcheon_order_squareOfR {H : Type} : DataW H := .agg [.lit (.int .u64 3256554584917936553), .lit (.int .u64 18391999277541532697), .lit (.int .u64 13564358545871743303), .lit (.int .u64 15279949475123764421), .lit (.int .u64 4589268600508278933), .lit (.int .u64 902107514168524577)]

/-- 'escutcheonlaw03.FieldRoots': WHATEVER THE INPUT: true; the input reads as it did. -/
def fieldRootsSpec : ChangeSpec := { name := "fieldRoots", fn := fun _ => fun
  | [d] => { results := [.lit (.bool true)], args := [d] }
  | _ => none }
def fieldRootsRow : OpenClaim := { program := "ytnhjaldifpiaiaadoor", sum := "113741ed9ab5fcbeb12d275272bead38c9b79c63082f2c6b73135214c6aebca3", func := "escutcheon/escutcheonlaw03.FieldRoots", spec := "fieldRoots", inPlace := ["math/bits.Add64", "math/bits.Sub64"], named := ["escutcheon/field.squareOfR", "escutcheon/field.prime"], apart := false, laid := [("escutcheon/field.prime", laid_escutcheon_field_prime), ("escutcheon/field.squareOfR", laid_escutcheon_field_squareOfR)] }
def FieldRootsSaid : Prop := fieldRootsRow.holds Tryd.pinned (OpenSpec.ofChange fieldRootsSpec)

/-- ITS FALSE NEIGHBOUR: 'it returns false'. Refute it at one input. -/
def fieldRootsWrong : ChangeSpec := { name := "fieldRoots", fn := fun _ => fun
  | [d] => { results := [.lit (.bool false)], args := [d] }
  | _ => none }
def FieldRootsWrongFalsely : Prop := fieldRootsRow.holds Tryd.pinned (OpenSpec.ofChange fieldRootsWrong)

/-- 'escutcheonlaw04.OrderSums': WHATEVER THE INPUT: true; the input reads as it did. -/
def orderSumsSpec : ChangeSpec := { name := "orderSums", fn := fun _ => fun
  | [d1, d2] => { results := [.lit (.bool true)], args := [d1, d2] }
  | _ => none }
def orderSumsRow : OpenClaim := { program := "ytnhjaldifpiaiaadoor", sum := "113741ed9ab5fcbeb12d275272bead38c9b79c63082f2c6b73135214c6aebca3", func := "escutcheon/escutcheonlaw04.OrderSums", spec := "orderSums", inPlace := ["math/bits.Sub64", "math/bits.Add64"], named := ["escutcheon/order.points", "escutcheon/order.squareOfR"], apart := false, laid := [("escutcheon/order.points", laid_escutcheon_order_points), ("escutcheon/order.squareOfR", laid_escutcheon_order_squareOfR)] }
def OrderSumsSaid : Prop := orderSumsRow.holds Tryd.pinned (OpenSpec.ofChange orderSumsSpec)

/-- ITS FALSE NEIGHBOUR: 'it returns false'. Refute it at one input. -/
def orderSumsWrong : ChangeSpec := { name := "orderSums", fn := fun _ => fun
  | [d1, d2] => { results := [.lit (.bool false)], args := [d1, d2] }
  | _ => none }
def OrderSumsWrongFalsely : Prop := orderSumsRow.holds Tryd.pinned (OpenSpec.ofChange orderSumsWrong)

/-- 'escutcheonlaw04.OrderMuls': WHATEVER THE INPUT: true; the input reads as it did. -/
def orderMulsSpec : ChangeSpec := { name := "orderMuls", fn := fun _ => fun
  | [d1, d2] => { results := [.lit (.bool true)], args := [d1, d2] }
  | _ => none }
def orderMulsRow : OpenClaim := { program := "ytnhjaldifpiaiaadoor", sum := "113741ed9ab5fcbeb12d275272bead38c9b79c63082f2c6b73135214c6aebca3", func := "escutcheon/escutcheonlaw04.OrderMuls", spec := "orderMuls", inPlace := ["math/bits.Sub64", "math/bits.Add64"], named := ["escutcheon/order.points", "escutcheon/order.squareOfR"], apart := false, laid := [("escutcheon/order.points", laid_escutcheon_order_points), ("escutcheon/order.squareOfR", laid_escutcheon_order_squareOfR)] }
def OrderMulsSaid : Prop := orderMulsRow.holds Tryd.pinned (OpenSpec.ofChange orderMulsSpec)

/-- ITS FALSE NEIGHBOUR: 'it returns false'. Refute it at one input. -/
def orderMulsWrong : ChangeSpec := { name := "orderMuls", fn := fun _ => fun
  | [d1, d2] => { results := [.lit (.bool false)], args := [d1, d2] }
  | _ => none }
def OrderMulsWrongFalsely : Prop := orderMulsRow.holds Tryd.pinned (OpenSpec.ofChange orderMulsWrong)

/-- 'escutcheonlaw04.OrderInvs': WHATEVER THE INPUT: true; the input reads as it did. -/
def orderInvsSpec : ChangeSpec := { name := "orderInvs", fn := fun _ => fun
  | [d1, d2] => { results := [.lit (.bool true)], args := [d1, d2] }
  | _ => none }
def orderInvsRow : OpenClaim := { program := "ytnhjaldifpiaiaadoor", sum := "113741ed9ab5fcbeb12d275272bead38c9b79c63082f2c6b73135214c6aebca3", func := "escutcheon/escutcheonlaw04.OrderInvs", spec := "orderInvs", inPlace := ["math/bits.Sub64", "math/bits.Add64"], named := ["escutcheon/order.points", "escutcheon/order.squareOfR"], apart := false, laid := [("escutcheon/order.points", laid_escutcheon_order_points), ("escutcheon/order.squareOfR", laid_escutcheon_order_squareOfR)] }
def OrderInvsSaid : Prop := orderInvsRow.holds Tryd.pinned (OpenSpec.ofChange orderInvsSpec)

/-- ITS FALSE NEIGHBOUR: 'it returns false'. Refute it at one input. -/
def orderInvsWrong : ChangeSpec := { name := "orderInvs", fn := fun _ => fun
  | [d1, d2] => { results := [.lit (.bool false)], args := [d1, d2] }
  | _ => none }
def OrderInvsWrongFalsely : Prop := orderInvsRow.holds Tryd.pinned (OpenSpec.ofChange orderInvsWrong)

/-- 'escutcheonlaw04.OrderDecodes': WHATEVER THE INPUT: true; the input reads as it did. -/
def orderDecodesSpec : ChangeSpec := { name := "orderDecodes", fn := fun _ => fun
  | [d] => { results := [.lit (.bool true)], args := [d] }
  | _ => none }
def orderDecodesRow : OpenClaim := { program := "ytnhjaldifpiaiaadoor", sum := "113741ed9ab5fcbeb12d275272bead38c9b79c63082f2c6b73135214c6aebca3", func := "escutcheon/escutcheonlaw04.OrderDecodes", spec := "orderDecodes", inPlace := ["math/bits.Sub64", "math/bits.Add64"], named := ["escutcheon/order.points", "escutcheon/order.squareOfR"], apart := false, laid := [("escutcheon/order.points", laid_escutcheon_order_points), ("escutcheon/order.squareOfR", laid_escutcheon_order_squareOfR)] }
def OrderDecodesSaid : Prop := orderDecodesRow.holds Tryd.pinned (OpenSpec.ofChange orderDecodesSpec)

/-- ITS FALSE NEIGHBOUR: 'it returns false'. Refute it at one input. -/
def orderDecodesWrong : ChangeSpec := { name := "orderDecodes", fn := fun _ => fun
  | [d] => { results := [.lit (.bool false)], args := [d] }
  | _ => none }
def OrderDecodesWrongFalsely : Prop := orderDecodesRow.holds Tryd.pinned (OpenSpec.ofChange orderDecodesWrong)

/- THE SECOND FORM. 'bulk': how many values and letters a reading holds, each counted each time it is reached (what is shared counts as often as it is met; a slice's spare places count too). A statement '..UptoSaid' is the law's where the arguments, and the package variables that the reading takes, are together of bulk at most 1048576: NARROWER than '..Said'. Prove '..Said' where nothing that the law and all that it calls make is longer than what came in: it says more and counts as full. Else prove '..UptoSaid'. A law counts once. -/
mutual
def uptoBulk {H : Type} : DataW H → Nat
  | .lit (.string bytes) => bytes.length + 1
  | .lit _ => 1
  | .nil => 1
  | .ptr d => uptoBulk d + 1
  | .slice elems spare => uptoBulkAll elems + uptoBulkAll spare + 1
  | .agg parts => uptoBulkAll parts + 1
  | .iface _ d => uptoBulk d + 1
  | .map entries => uptoBulkEntries entries + 1
  | .held _ => 1
def uptoBulkAll {H : Type} : List (DataW H) → Nat
  | [] => 0
  | d :: r => uptoBulk d + uptoBulkAll r
def uptoBulkEntries {H : Type} : List (Lit × DataW H) → Nat
  | [] => 0
  | x :: r => uptoBulkEntry x + uptoBulkEntries r
def uptoBulkEntry {H : Type} : Lit × DataW H → Nat
  | (.string bytes, d) => bytes.length + uptoBulk d + 1
  | (_, d) => uptoBulk d + 1
 end
def uptoSmall : (H : Type) → List (DataW H) → Bool := fun _ ds => decide (uptoBulkAll ds ≤ 1048576)
def OpenSpec.upto (s : _root_.Go.ChangeSpec) : _root_.Go.OpenSpec := { _root_.Go.OpenSpec.ofChange s with cond := some uptoSmall }

/-- 'escutcheonlaw03.FieldRoots', WHERE WHAT IT READS IS OF BULK AT MOST 1048576: true; the input reads as it did. -/
def fieldRootsUptoRow : OpenClaim := { program := "ytnhjaldifpiaiaadoor", sum := "113741ed9ab5fcbeb12d275272bead38c9b79c63082f2c6b73135214c6aebca3", func := "escutcheon/escutcheonlaw03.FieldRoots", spec := "fieldRoots", inPlace := ["math/bits.Add64", "math/bits.Sub64"], named := ["escutcheon/field.squareOfR", "escutcheon/field.prime"], apart := false, laid := [("escutcheon/field.prime", laid_escutcheon_field_prime), ("escutcheon/field.squareOfR", laid_escutcheon_field_squareOfR)], narrowed := true }
def FieldRootsUptoSaid : Prop := fieldRootsUptoRow.holds Tryd.pinned (OpenSpec.upto fieldRootsSpec)

/-- 'escutcheonlaw04.OrderSums', WHERE WHAT IT READS IS OF BULK AT MOST 1048576: true; the input reads as it did. -/
def orderSumsUptoRow : OpenClaim := { program := "ytnhjaldifpiaiaadoor", sum := "113741ed9ab5fcbeb12d275272bead38c9b79c63082f2c6b73135214c6aebca3", func := "escutcheon/escutcheonlaw04.OrderSums", spec := "orderSums", inPlace := ["math/bits.Sub64", "math/bits.Add64"], named := ["escutcheon/order.points", "escutcheon/order.squareOfR"], apart := false, laid := [("escutcheon/order.points", laid_escutcheon_order_points), ("escutcheon/order.squareOfR", laid_escutcheon_order_squareOfR)], narrowed := true }
def OrderSumsUptoSaid : Prop := orderSumsUptoRow.holds Tryd.pinned (OpenSpec.upto orderSumsSpec)

/-- 'escutcheonlaw04.OrderMuls', WHERE WHAT IT READS IS OF BULK AT MOST 1048576: true; the input reads as it did. -/
def orderMulsUptoRow : OpenClaim := { program := "ytnhjaldifpiaiaadoor", sum := "113741ed9ab5fcbeb12d275272bead38c9b79c63082f2c6b73135214c6aebca3", func := "escutcheon/escutcheonlaw04.OrderMuls", spec := "orderMuls", inPlace := ["math/bits.Sub64", "math/bits.Add64"], named := ["escutcheon/order.points", "escutcheon/order.squareOfR"], apart := false, laid := [("escutcheon/order.points", laid_escutcheon_order_points), ("escutcheon/order.squareOfR", laid_escutcheon_order_squareOfR)], narrowed := true }
def OrderMulsUptoSaid : Prop := orderMulsUptoRow.holds Tryd.pinned (OpenSpec.upto orderMulsSpec)

/-- 'escutcheonlaw04.OrderInvs', WHERE WHAT IT READS IS OF BULK AT MOST 1048576: true; the input reads as it did. -/
def orderInvsUptoRow : OpenClaim := { program := "ytnhjaldifpiaiaadoor", sum := "113741ed9ab5fcbeb12d275272bead38c9b79c63082f2c6b73135214c6aebca3", func := "escutcheon/escutcheonlaw04.OrderInvs", spec := "orderInvs", inPlace := ["math/bits.Sub64", "math/bits.Add64"], named := ["escutcheon/order.points", "escutcheon/order.squareOfR"], apart := false, laid := [("escutcheon/order.points", laid_escutcheon_order_points), ("escutcheon/order.squareOfR", laid_escutcheon_order_squareOfR)], narrowed := true }
def OrderInvsUptoSaid : Prop := orderInvsUptoRow.holds Tryd.pinned (OpenSpec.upto orderInvsSpec)

/-- 'escutcheonlaw04.OrderDecodes', WHERE WHAT IT READS IS OF BULK AT MOST 1048576: true; the input reads as it did. -/
def orderDecodesUptoRow : OpenClaim := { program := "ytnhjaldifpiaiaadoor", sum := "113741ed9ab5fcbeb12d275272bead38c9b79c63082f2c6b73135214c6aebca3", func := "escutcheon/escutcheonlaw04.OrderDecodes", spec := "orderDecodes", inPlace := ["math/bits.Sub64", "math/bits.Add64"], named := ["escutcheon/order.points", "escutcheon/order.squareOfR"], apart := false, laid := [("escutcheon/order.points", laid_escutcheon_order_points), ("escutcheon/order.squareOfR", laid_escutcheon_order_squareOfR)], narrowed := true }
def OrderDecodesUptoSaid : Prop := orderDecodesUptoRow.holds Tryd.pinned (OpenSpec.upto orderDecodesSpec)

end Rows
end Go.Proofs.YtnhjaldifpiaiaaDoor
