/-
  NARROWER THAN 'FOR EVERY INPUT', by the rows' own cells (each row's printed sentence says how): CertBodies: laid · CertDecodes: laid · CertBack: laid · CertStays: laid.
  DERIVED. THE GIVEN ROWS OF THIS SEAT. 4 by the template 'for every input the law returns true; each argument reads behind the call as it read before'; 0 by the template 'total and deterministic' (their statements: YtdfmoghjimghhaaGreatDoorTotals.lean).
  GIVEN WITH THE SEED: the statements are not yours to turn. If you find one false, say at which input.
  Laid BY PROGRAM, IN A SANDBOX (cutbox-rows.mjs): the forced cells as the released guide's own fill.sh prints them over the translation 436b50736072bdba… (all of the seat's roots in one cut). By AI agents, Wed Nov 11 2026. No macro, syntax, notation, axiom, sorry.
-/
import Derived.Test.YtdfmoghjimghhaaGreatDoorChecked
import GoSem.Claim
import GoSem.ClaimJoined
import GoSem.ClaimMapViews
import Derived.JoinedTies
import Derived.KernelRfl
namespace Go.Proofs.YtdfmoghjimghhaaGreatDoor
/- THE CELL 'sum', in the pinned program and in every row, IS THE sha256 OF THE DUMP (.gsa) THAT YtdfmoghjimghhaaGreatDoorProg.lean LOADS. Nothing in Lean hashes anything: it is a label: what it is worth is what the hold of that sum in a sandbox is worth. -/
noncomputable def Tryz.pinned : Pinned := { name := "ytdfmoghjimghhaagreatdoor", sum := "436b50736072bdbaccf70e29af2f44b6ae85dff73d25c32ee7c23a69e7735b52", checked := Tryz.checked }
namespace Rows
def none {H : Type} : Left H := { results := [], args := [] }

/- WHAT THE LISTED PACKAGE-LEVEL VARIABLES READ AS WHEN THE CALL BEGINS. Each datum BY PROGRAM (the guide's laid-datum.mjs) off the statement by which the dump's own 'gosem.cut.vars' lays the variable. In a bare row this is a premise. The card (YtdfmoghjimghhaaGreatDoorCards.lean) ties it to the program's text. -/
def laid_escutcheon_field_prime {H : Type} : DataW H := .agg [.lit (.int .u64 4294967295), .lit (.int .u64 18446744069414584320), .lit (.int .u64 18446744073709551614), .lit (.int .u64 18446744073709551615), .lit (.int .u64 18446744073709551615), .lit (.int .u64 18446744073709551615)]
def laid_escutcheon_field_squareOfR {H : Type} : DataW H := .agg [.lit (.int .u64 18446744065119617025), .lit (.int .u64 8589934592), .lit (.int .u64 18446744065119617024), .lit (.int .u64 8589934592), .lit (.int .u64 1), .lit (.int .u64 0)]
def laid_escutcheon_curve_constant {H : Type} : DataW H := .agg [.lit (.int .u64 3064076045283764975), .lit (.int .u64 14291673747578343837), .lit (.int .u64 221811693264799578), .lit (.int .u64 1737717031765098770), .lit (.int .u64 10992729701402291481), .lit (.int .u64 12912154004749740004)]
def laid_escutcheon_order_points {H : Type} : DataW H := .agg [.lit (.int .u64 17072048233947408755), .lit (.int .u64 6348401684107011962), .lit (.int .u64 14367412456785391071), .lit (.int .u64 18446744073709551615), .lit (.int .u64 18446744073709551615), .lit (.int .u64 18446744073709551615)]
def laid_errors_errorType {H : Type} : DataW H := .iface "internal/reflectlite.rtype" (.agg [.ptr (.lit (.string [101, 114, 114, 111, 114]))])
def laid_escutcheon_curve_base {H : Type} : DataW H := .agg [.agg [.lit (.int .u64 4203087948775033527), .lit (.int .u64 6125724927633205612), .lit (.int .u64 6482722621138151992), .lit (.int .u64 7934563412932533144), .lit (.int .u64 10282218360005504372), .lit (.int .u64 12288012358878168375)], .agg [.lit (.int .u64 8809917716911230559), .lit (.int .u64 747793036959711645), .lit (.int .u64 16850834916486723776), .lit (.int .u64 17938995913990739068), .lit (.int .u64 6745997240412855337), .lit (.int .u64 3897828414440483951)], .lit (.bool false)]

/-- 'escutcheonlaw17.CertBodies': WHATEVER THE INPUT: true; the input reads as it did. -/
def certBodiesSpec : ChangeSpec := { name := "certBodies", fn := fun _ => fun
  | [d] => { results := [.lit (.bool true)], args := [d] }
  | _ => none }
def certBodiesRow : OpenClaim := { program := "ytdfmoghjimghhaagreatdoor", sum := "436b50736072bdbaccf70e29af2f44b6ae85dff73d25c32ee7c23a69e7735b52", func := "escutcheon/escutcheonlaw17.CertBodies", spec := "certBodies", inPlace := ["math/bits.Sub64", "math/bits.Add64"], unfollowed := true, recurses := true, named := ["escutcheon/field.prime", "escutcheon/curve.constant", "escutcheon/field.squareOfR", "escutcheon/order.points"], apart := false, laid := [("escutcheon/field.prime", laid_escutcheon_field_prime), ("escutcheon/field.squareOfR", laid_escutcheon_field_squareOfR), ("escutcheon/curve.constant", laid_escutcheon_curve_constant), ("escutcheon/order.points", laid_escutcheon_order_points)] }
def CertBodiesSaid : Prop := certBodiesRow.holds Tryz.pinned (OpenSpec.ofChange certBodiesSpec)

/-- ITS FALSE NEIGHBOUR: 'it returns false'. Refute it at one input. -/
def certBodiesWrong : ChangeSpec := { name := "certBodies", fn := fun _ => fun
  | [d] => { results := [.lit (.bool false)], args := [d] }
  | _ => none }
def CertBodiesWrongFalsely : Prop := certBodiesRow.holds Tryz.pinned (OpenSpec.ofChange certBodiesWrong)

/-- 'escutcheonlaw17.CertDecodes': WHATEVER THE INPUT: true; the input reads as it did. -/
def certDecodesSpec : ChangeSpec := { name := "certDecodes", fn := fun _ => fun
  | [d] => { results := [.lit (.bool true)], args := [d] }
  | _ => none }
def certDecodesRow : OpenClaim := { program := "ytdfmoghjimghhaagreatdoor", sum := "436b50736072bdbaccf70e29af2f44b6ae85dff73d25c32ee7c23a69e7735b52", func := "escutcheon/escutcheonlaw17.CertDecodes", spec := "certDecodes", inPlace := ["math/bits.Sub64", "math/bits.Add64", "internal/reflectlite.ValueOf", "(internal/reflectlite.Value).Type", "(internal/reflectlite.Value).IsNil", "internal/reflectlite.TypeOf", "(internal/reflectlite.Value).Elem", "(internal/reflectlite.Value).Set"], unfollowed := true, recurses := true, named := ["escutcheon/field.prime", "escutcheon/curve.constant", "escutcheon/field.squareOfR", "escutcheon/order.points", "errors.errorType"], apart := false, laid := [("errors.errorType", laid_errors_errorType), ("escutcheon/field.prime", laid_escutcheon_field_prime), ("escutcheon/field.squareOfR", laid_escutcheon_field_squareOfR), ("escutcheon/curve.constant", laid_escutcheon_curve_constant), ("escutcheon/order.points", laid_escutcheon_order_points)] }
def CertDecodesSaid : Prop := certDecodesRow.holds Tryz.pinned (OpenSpec.ofChange certDecodesSpec)

/-- ITS FALSE NEIGHBOUR: 'it returns false'. Refute it at one input. -/
def certDecodesWrong : ChangeSpec := { name := "certDecodes", fn := fun _ => fun
  | [d] => { results := [.lit (.bool false)], args := [d] }
  | _ => none }
def CertDecodesWrongFalsely : Prop := certDecodesRow.holds Tryz.pinned (OpenSpec.ofChange certDecodesWrong)

/-- 'escutcheonlaw17.CertBack': WHATEVER THE INPUT: true; the input reads as it did. -/
def certBackSpec : ChangeSpec := { name := "certBack", fn := fun _ => fun
  | [d1, d2, d3] => { results := [.lit (.bool true)], args := [d1, d2, d3] }
  | _ => none }
def certBackRow : OpenClaim := { program := "ytdfmoghjimghhaagreatdoor", sum := "436b50736072bdbaccf70e29af2f44b6ae85dff73d25c32ee7c23a69e7735b52", func := "escutcheon/escutcheonlaw17.CertBack", spec := "certBack", inPlace := ["math/bits.Sub64", "math/bits.Add64"], unfollowed := true, recurses := true, named := ["escutcheon/field.prime", "escutcheon/curve.constant", "escutcheon/field.squareOfR", "escutcheon/order.points", "escutcheon/curve.base"], apart := false, laid := [("escutcheon/field.prime", laid_escutcheon_field_prime), ("escutcheon/field.squareOfR", laid_escutcheon_field_squareOfR), ("escutcheon/curve.constant", laid_escutcheon_curve_constant), ("escutcheon/curve.base", laid_escutcheon_curve_base), ("escutcheon/order.points", laid_escutcheon_order_points)] }
def CertBackSaid : Prop := certBackRow.holds Tryz.pinned (OpenSpec.ofChange certBackSpec)

/-- ITS FALSE NEIGHBOUR: 'it returns false'. Refute it at one input. -/
def certBackWrong : ChangeSpec := { name := "certBack", fn := fun _ => fun
  | [d1, d2, d3] => { results := [.lit (.bool false)], args := [d1, d2, d3] }
  | _ => none }
def CertBackWrongFalsely : Prop := certBackRow.holds Tryz.pinned (OpenSpec.ofChange certBackWrong)

/-- 'escutcheonlaw17.CertStays': WHATEVER THE INPUT: true; the input reads as it did. -/
def certStaysSpec : ChangeSpec := { name := "certStays", fn := fun _ => fun
  | [d1, d2] => { results := [.lit (.bool true)], args := [d1, d2] }
  | _ => none }
def certStaysRow : OpenClaim := { program := "ytdfmoghjimghhaagreatdoor", sum := "436b50736072bdbaccf70e29af2f44b6ae85dff73d25c32ee7c23a69e7735b52", func := "escutcheon/escutcheonlaw17.CertStays", spec := "certStays", inPlace := ["math/bits.Sub64", "math/bits.Add64", "internal/reflectlite.ValueOf", "(internal/reflectlite.Value).Type", "(internal/reflectlite.Value).IsNil", "internal/reflectlite.TypeOf", "(internal/reflectlite.Value).Elem", "(internal/reflectlite.Value).Set"], unfollowed := true, recurses := true, named := ["escutcheon/field.prime", "escutcheon/curve.constant", "escutcheon/field.squareOfR", "escutcheon/order.points", "errors.errorType"], apart := false, laid := [("errors.errorType", laid_errors_errorType), ("escutcheon/field.prime", laid_escutcheon_field_prime), ("escutcheon/field.squareOfR", laid_escutcheon_field_squareOfR), ("escutcheon/curve.constant", laid_escutcheon_curve_constant), ("escutcheon/order.points", laid_escutcheon_order_points)] }
def CertStaysSaid : Prop := certStaysRow.holds Tryz.pinned (OpenSpec.ofChange certStaysSpec)

/-- ITS FALSE NEIGHBOUR: 'it returns false'. Refute it at one input. -/
def certStaysWrong : ChangeSpec := { name := "certStays", fn := fun _ => fun
  | [d1, d2] => { results := [.lit (.bool false)], args := [d1, d2] }
  | _ => none }
def CertStaysWrongFalsely : Prop := certStaysRow.holds Tryz.pinned (OpenSpec.ofChange certStaysWrong)

/- THE SECOND FORM. 'bulk': how many values and letters a reading holds, each counted each time it is reached (what is shared counts as often as it is met; a slice's spare places count too). A statement '..UptoSaid' is the law's where the arguments, and the package variables that the reading takes, are together of bulk at most 1048576: NARROWER than '..Said'. Prove '..Said' where nothing that the law and all that it calls make is longer than what came in: it says more and counts as full. Else prove '..UptoSaid'. A law counts once. -/
mutual
def uptoBulk {H : Type} : DataW H → Nat
  | .lit (.string bytes) => bytes.length + 1
  | .lit _ => 1
  | .nil => 1
  | .ptr d => uptoBulk d + 1
  | .slice elems spare => uptoBulkAll elems + uptoBulkAll spare + 1
  | .agg parts => uptoBulkAll parts + 1
  | .iface _ d => uptoBulk d + 1
  | .map entries => uptoBulkEntries entries + 1
  | .held _ => 1
def uptoBulkAll {H : Type} : List (DataW H) → Nat
  | [] => 0
  | d :: r => uptoBulk d + uptoBulkAll r
def uptoBulkEntries {H : Type} : List (Lit × DataW H) → Nat
  | [] => 0
  | x :: r => uptoBulkEntry x + uptoBulkEntries r
def uptoBulkEntry {H : Type} : Lit × DataW H → Nat
  | (.string bytes, d) => bytes.length + uptoBulk d + 1
  | (_, d) => uptoBulk d + 1
 end
def uptoSmall : (H : Type) → List (DataW H) → Bool := fun _ ds => decide (uptoBulkAll ds ≤ 1048576)
def OpenSpec.upto (s : _root_.Go.ChangeSpec) : _root_.Go.OpenSpec := { _root_.Go.OpenSpec.ofChange s with cond := some uptoSmall }

/-- 'escutcheonlaw17.CertBodies', WHERE WHAT IT READS IS OF BULK AT MOST 1048576: true; the input reads as it did. -/
def certBodiesUptoRow : OpenClaim := { program := "ytdfmoghjimghhaagreatdoor", sum := "436b50736072bdbaccf70e29af2f44b6ae85dff73d25c32ee7c23a69e7735b52", func := "escutcheon/escutcheonlaw17.CertBodies", spec := "certBodies", inPlace := ["math/bits.Sub64", "math/bits.Add64"], unfollowed := true, recurses := true, named := ["escutcheon/field.prime", "escutcheon/curve.constant", "escutcheon/field.squareOfR", "escutcheon/order.points"], apart := false, laid := [("escutcheon/field.prime", laid_escutcheon_field_prime), ("escutcheon/field.squareOfR", laid_escutcheon_field_squareOfR), ("escutcheon/curve.constant", laid_escutcheon_curve_constant), ("escutcheon/order.points", laid_escutcheon_order_points)], narrowed := true }
def CertBodiesUptoSaid : Prop := certBodiesUptoRow.holds Tryz.pinned (OpenSpec.upto certBodiesSpec)

/-- 'escutcheonlaw17.CertDecodes', WHERE WHAT IT READS IS OF BULK AT MOST 1048576: true; the input reads as it did. -/
def certDecodesUptoRow : OpenClaim := { program := "ytdfmoghjimghhaagreatdoor", sum := "436b50736072bdbaccf70e29af2f44b6ae85dff73d25c32ee7c23a69e7735b52", func := "escutcheon/escutcheonlaw17.CertDecodes", spec := "certDecodes", inPlace := ["math/bits.Sub64", "math/bits.Add64", "internal/reflectlite.ValueOf", "(internal/reflectlite.Value).Type", "(internal/reflectlite.Value).IsNil", "internal/reflectlite.TypeOf", "(internal/reflectlite.Value).Elem", "(internal/reflectlite.Value).Set"], unfollowed := true, recurses := true, named := ["escutcheon/field.prime", "escutcheon/curve.constant", "escutcheon/field.squareOfR", "escutcheon/order.points", "errors.errorType"], apart := false, laid := [("errors.errorType", laid_errors_errorType), ("escutcheon/field.prime", laid_escutcheon_field_prime), ("escutcheon/field.squareOfR", laid_escutcheon_field_squareOfR), ("escutcheon/curve.constant", laid_escutcheon_curve_constant), ("escutcheon/order.points", laid_escutcheon_order_points)], narrowed := true }
def CertDecodesUptoSaid : Prop := certDecodesUptoRow.holds Tryz.pinned (OpenSpec.upto certDecodesSpec)

/-- 'escutcheonlaw17.CertBack', WHERE WHAT IT READS IS OF BULK AT MOST 1048576: true; the input reads as it did. -/
def certBackUptoRow : OpenClaim := { program := "ytdfmoghjimghhaagreatdoor", sum := "436b50736072bdbaccf70e29af2f44b6ae85dff73d25c32ee7c23a69e7735b52", func := "escutcheon/escutcheonlaw17.CertBack", spec := "certBack", inPlace := ["math/bits.Sub64", "math/bits.Add64"], unfollowed := true, recurses := true, named := ["escutcheon/field.prime", "escutcheon/curve.constant", "escutcheon/field.squareOfR", "escutcheon/order.points", "escutcheon/curve.base"], apart := false, laid := [("escutcheon/field.prime", laid_escutcheon_field_prime), ("escutcheon/field.squareOfR", laid_escutcheon_field_squareOfR), ("escutcheon/curve.constant", laid_escutcheon_curve_constant), ("escutcheon/curve.base", laid_escutcheon_curve_base), ("escutcheon/order.points", laid_escutcheon_order_points)], narrowed := true }
def CertBackUptoSaid : Prop := certBackUptoRow.holds Tryz.pinned (OpenSpec.upto certBackSpec)

/-- 'escutcheonlaw17.CertStays', WHERE WHAT IT READS IS OF BULK AT MOST 1048576: true; the input reads as it did. -/
def certStaysUptoRow : OpenClaim := { program := "ytdfmoghjimghhaagreatdoor", sum := "436b50736072bdbaccf70e29af2f44b6ae85dff73d25c32ee7c23a69e7735b52", func := "escutcheon/escutcheonlaw17.CertStays", spec := "certStays", inPlace := ["math/bits.Sub64", "math/bits.Add64", "internal/reflectlite.ValueOf", "(internal/reflectlite.Value).Type", "(internal/reflectlite.Value).IsNil", "internal/reflectlite.TypeOf", "(internal/reflectlite.Value).Elem", "(internal/reflectlite.Value).Set"], unfollowed := true, recurses := true, named := ["escutcheon/field.prime", "escutcheon/curve.constant", "escutcheon/field.squareOfR", "escutcheon/order.points", "errors.errorType"], apart := false, laid := [("errors.errorType", laid_errors_errorType), ("escutcheon/field.prime", laid_escutcheon_field_prime), ("escutcheon/field.squareOfR", laid_escutcheon_field_squareOfR), ("escutcheon/curve.constant", laid_escutcheon_curve_constant), ("escutcheon/order.points", laid_escutcheon_order_points)], narrowed := true }
def CertStaysUptoSaid : Prop := certStaysUptoRow.holds Tryz.pinned (OpenSpec.upto certStaysSpec)

end Rows
end Go.Proofs.YtdfmoghjimghhaaGreatDoor
