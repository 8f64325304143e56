/-
  NARROWER THAN 'FOR EVERY INPUT', by the rows' own cells (each row's printed sentence says how): EcdsaHolds: laid.
  DERIVED. THE GIVEN ROWS OF THIS SEAT. 1 by the template 'for every input the law returns true; each argument reads behind the call as it read before'; 0 by the template 'total and deterministic' (their statements: YtjpnbbhpgchbpaaDoorTotals.lean).
  GIVEN WITH THE SEED: the statements are not yours to turn. If you find one false, say at which input.
  Laid BY PROGRAM, IN A SANDBOX (cutbox-rows.mjs): the forced cells as the released guide's own fill.sh prints them over the translation 209fa86ce6803693… (all of the seat's roots in one cut). By AI agents, Wed Nov 11 2026. No macro, syntax, notation, axiom, sorry.
-/
import Derived.Test.YtjpnbbhpgchbpaaDoorChecked
import GoSem.Claim
import GoSem.ClaimJoined
import GoSem.ClaimMapViews
import Derived.JoinedTies
import Derived.KernelRfl
namespace Go.Proofs.YtjpnbbhpgchbpaaDoor
/- THE CELL 'sum', in the pinned program and in every row, IS THE sha256 OF THE DUMP (.gsa) THAT YtjpnbbhpgchbpaaDoorProg.lean LOADS. Nothing in Lean hashes anything: it is a label: what it is worth is what the hold of that sum in a sandbox is worth. -/
noncomputable def Tryd.pinned : Pinned := { name := "ytjpnbbhpgchbpaadoor", sum := "209fa86ce6803693c12b187c0bf2794a21d55cee8428c4477b94b5fe29ee6fc3", checked := Tryd.checked }
namespace Rows
def none {H : Type} : Left H := { results := [], args := [] }

/- WHAT THE LISTED PACKAGE-LEVEL VARIABLES READ AS WHEN THE CALL BEGINS. Each datum BY PROGRAM (the guide's laid-datum.mjs) off the statement by which the dump's own 'gosem.cut.vars' lays the variable. In a bare row this is a premise. The card (YtjpnbbhpgchbpaaDoorCards.lean) ties it to the program's text. -/
def laid_escutcheon_field_prime {H : Type} : DataW H := .agg [.lit (.int .u64 4294967295), .lit (.int .u64 18446744069414584320), .lit (.int .u64 18446744073709551614), .lit (.int .u64 18446744073709551615), .lit (.int .u64 18446744073709551615), .lit (.int .u64 18446744073709551615)]
def laid_escutcheon_field_squareOfR {H : Type} : DataW H := .agg [.lit (.int .u64 18446744065119617025), .lit (.int .u64 8589934592), .lit (.int .u64 18446744065119617024), .lit (.int .u64 8589934592), .lit (.int .u64 1), .lit (.int .u64 0)]
def laid_escutcheon_curve_constant {H : Type} : DataW H := .agg [.lit (.int .u64 3064076045283764975), .lit (.int .u64 14291673747578343837), .lit (.int .u64 221811693264799578), .lit (.int .u64 1737717031765098770), .lit (.int .u64 10992729701402291481), .lit (.int .u64 12912154004749740004)]
def laid_escutcheon_curve_base {H : Type} : DataW H := .agg [.agg [.lit (.int .u64 4203087948775033527), .lit (.int .u64 6125724927633205612), .lit (.int .u64 6482722621138151992), .lit (.int .u64 7934563412932533144), .lit (.int .u64 10282218360005504372), .lit (.int .u64 12288012358878168375)], .agg [.lit (.int .u64 8809917716911230559), .lit (.int .u64 747793036959711645), .lit (.int .u64 16850834916486723776), .lit (.int .u64 17938995913990739068), .lit (.int .u64 6745997240412855337), .lit (.int .u64 3897828414440483951)], .lit (.bool false)]
def laid_escutcheon_order_points {H : Type} : DataW H := .agg [.lit (.int .u64 17072048233947408755), .lit (.int .u64 6348401684107011962), .lit (.int .u64 14367412456785391071), .lit (.int .u64 18446744073709551615), .lit (.int .u64 18446744073709551615), .lit (.int .u64 18446744073709551615)]
def laid_escutcheon_order_squareOfR {H : Type} : DataW H := .agg [.lit (.int .u64 3256554584917936553), .lit (.int .u64 18391999277541532697), .lit (.int .u64 13564358545871743303), .lit (.int .u64 15279949475123764421), .lit (.int .u64 4589268600508278933), .lit (.int .u64 902107514168524577)]

/-- 'escutcheonlaw14.EcdsaHolds': WHATEVER THE INPUT: true; the input reads as it did. -/
def ecdsaHoldsSpec : ChangeSpec := { name := "ecdsaHolds", fn := fun _ => fun
  | [d1, d2, d3] => { results := [.lit (.bool true)], args := [d1, d2, d3] }
  | _ => none }
def ecdsaHoldsRow : OpenClaim := { program := "ytjpnbbhpgchbpaadoor", sum := "209fa86ce6803693c12b187c0bf2794a21d55cee8428c4477b94b5fe29ee6fc3", func := "escutcheon/escutcheonlaw14.EcdsaHolds", spec := "ecdsaHolds", inPlace := ["math/bits.Sub64", "math/bits.Add64"], unfollowed := true, recurses := true, named := ["escutcheon/curve.base", "escutcheon/field.prime", "escutcheon/curve.constant", "escutcheon/field.squareOfR", "escutcheon/order.points", "escutcheon/order.squareOfR"], apart := false, laid := [("escutcheon/field.prime", laid_escutcheon_field_prime), ("escutcheon/field.squareOfR", laid_escutcheon_field_squareOfR), ("escutcheon/curve.constant", laid_escutcheon_curve_constant), ("escutcheon/curve.base", laid_escutcheon_curve_base), ("escutcheon/order.points", laid_escutcheon_order_points), ("escutcheon/order.squareOfR", laid_escutcheon_order_squareOfR)] }
def EcdsaHoldsSaid : Prop := ecdsaHoldsRow.holds Tryd.pinned (OpenSpec.ofChange ecdsaHoldsSpec)

/-- ITS FALSE NEIGHBOUR: 'it returns false'. Refute it at one input. -/
def ecdsaHoldsWrong : ChangeSpec := { name := "ecdsaHolds", fn := fun _ => fun
  | [d1, d2, d3] => { results := [.lit (.bool false)], args := [d1, d2, d3] }
  | _ => none }
def EcdsaHoldsWrongFalsely : Prop := ecdsaHoldsRow.holds Tryd.pinned (OpenSpec.ofChange ecdsaHoldsWrong)

/- THE SECOND FORM. 'bulk': how many values and letters a reading holds, each counted each time it is reached (what is shared counts as often as it is met; a slice's spare places count too). A statement '..UptoSaid' is the law's where the arguments, and the package variables that the reading takes, are together of bulk at most 1048576: NARROWER than '..Said'. Prove '..Said' where nothing that the law and all that it calls make is longer than what came in: it says more and counts as full. Else prove '..UptoSaid'. A law counts once. -/
mutual
def uptoBulk {H : Type} : DataW H → Nat
  | .lit (.string bytes) => bytes.length + 1
  | .lit _ => 1
  | .nil => 1
  | .ptr d => uptoBulk d + 1
  | .slice elems spare => uptoBulkAll elems + uptoBulkAll spare + 1
  | .agg parts => uptoBulkAll parts + 1
  | .iface _ d => uptoBulk d + 1
  | .map entries => uptoBulkEntries entries + 1
  | .held _ => 1
def uptoBulkAll {H : Type} : List (DataW H) → Nat
  | [] => 0
  | d :: r => uptoBulk d + uptoBulkAll r
def uptoBulkEntries {H : Type} : List (Lit × DataW H) → Nat
  | [] => 0
  | x :: r => uptoBulkEntry x + uptoBulkEntries r
def uptoBulkEntry {H : Type} : Lit × DataW H → Nat
  | (.string bytes, d) => bytes.length + uptoBulk d + 1
  | (_, d) => uptoBulk d + 1
 end
def uptoSmall : (H : Type) → List (DataW H) → Bool := fun _ ds => decide (uptoBulkAll ds ≤ 1048576)
def OpenSpec.upto (s : _root_.Go.ChangeSpec) : _root_.Go.OpenSpec := { _root_.Go.OpenSpec.ofChange s with cond := some uptoSmall }

/-- 'escutcheonlaw14.EcdsaHolds', WHERE WHAT IT READS IS OF BULK AT MOST 1048576: true; the input reads as it did. -/
def ecdsaHoldsUptoRow : OpenClaim := { program := "ytjpnbbhpgchbpaadoor", sum := "209fa86ce6803693c12b187c0bf2794a21d55cee8428c4477b94b5fe29ee6fc3", func := "escutcheon/escutcheonlaw14.EcdsaHolds", spec := "ecdsaHolds", inPlace := ["math/bits.Sub64", "math/bits.Add64"], unfollowed := true, recurses := true, named := ["escutcheon/curve.base", "escutcheon/field.prime", "escutcheon/curve.constant", "escutcheon/field.squareOfR", "escutcheon/order.points", "escutcheon/order.squareOfR"], apart := false, laid := [("escutcheon/field.prime", laid_escutcheon_field_prime), ("escutcheon/field.squareOfR", laid_escutcheon_field_squareOfR), ("escutcheon/curve.constant", laid_escutcheon_curve_constant), ("escutcheon/curve.base", laid_escutcheon_curve_base), ("escutcheon/order.points", laid_escutcheon_order_points), ("escutcheon/order.squareOfR", laid_escutcheon_order_squareOfR)], narrowed := true }
def EcdsaHoldsUptoSaid : Prop := ecdsaHoldsUptoRow.holds Tryd.pinned (OpenSpec.upto ecdsaHoldsSpec)

end Rows
end Go.Proofs.YtjpnbbhpgchbpaaDoor
