/-
  NARROWER THAN 'FOR EVERY INPUT', by the rows' own cells (each row's printed sentence says how): CurveOn: laid · CurveAdds: laid · CurveSums: laid · CurveNegs: laid · CurveEncodes: laid · CurveDecodes: laid.
  DERIVED. THE GIVEN ROWS OF THIS SEAT. 6 by the template 'for every input the law returns true; each argument reads behind the call as it read before'; 0 by the template 'total and deterministic' (their statements: YtpgidlnpcjbfhaaDoorTotals.lean).
  GIVEN WITH THE SEED: the statements are not yours to turn. If you find one false, say at which input.
  Laid BY PROGRAM, IN A SANDBOX (cutbox-rows.mjs): the forced cells as the released guide's own fill.sh prints them over the translation b18dbafd2fa3ef3e… (all of the seat's roots in one cut). By AI agents, Wed Nov 11 2026. No macro, syntax, notation, axiom, sorry.
-/
import Derived.Test.YtpgidlnpcjbfhaaDoorChecked
import GoSem.Claim
import GoSem.ClaimJoined
import GoSem.ClaimMapViews
import Derived.JoinedTies
import Derived.KernelRfl
namespace Go.Proofs.YtpgidlnpcjbfhaaDoor
/- THE CELL 'sum', in the pinned program and in every row, IS THE sha256 OF THE DUMP (.gsa) THAT YtpgidlnpcjbfhaaDoorProg.lean LOADS. Nothing in Lean hashes anything: it is a label: what it is worth is what the hold of that sum in a sandbox is worth. -/
noncomputable def Tryd.pinned : Pinned := { name := "ytpgidlnpcjbfhaadoor", sum := "b18dbafd2fa3ef3e41aba6dfbbb76641fab206e352bfb219f9ecbb7196de70cb", checked := Tryd.checked }
namespace Rows
def none {H : Type} : Left H := { results := [], args := [] }

/- WHAT THE LISTED PACKAGE-LEVEL VARIABLES READ AS WHEN THE CALL BEGINS. Each datum BY PROGRAM (the guide's laid-datum.mjs) off the statement by which the dump's own 'gosem.cut.vars' lays the variable. In a bare row this is a premise. The card (YtpgidlnpcjbfhaaDoorCards.lean) ties it to the program's text. -/
def laid_escutcheon_field_prime {H : Type} : DataW H := .agg [.lit (.int .u64 4294967295), .lit (.int .u64 18446744069414584320), .lit (.int .u64 18446744073709551614), .lit (.int .u64 18446744073709551615), .lit (.int .u64 18446744073709551615), .lit (.int .u64 18446744073709551615)]
def laid_escutcheon_field_squareOfR {H : Type} : DataW H := .agg [.lit (.int .u64 18446744065119617025), .lit (.int .u64 8589934592), .lit (.int .u64 18446744065119617024), .lit (.int .u64 8589934592), .lit (.int .u64 1), .lit (.int .u64 0)]
def laid_escutcheon_curve_constant {H : Type} : DataW H := .agg [.lit (.int .u64 3064076045283764975), .lit (.int .u64 14291673747578343837), .lit (.int .u64 221811693264799578), .lit (.int .u64 1737717031765098770), .lit (.int .u64 10992729701402291481), .lit (.int .u64 12912154004749740004)]
def laid_escutcheon_curve_base {H : Type} : DataW H := .agg [.agg [.lit (.int .u64 4203087948775033527), .lit (.int .u64 6125724927633205612), .lit (.int .u64 6482722621138151992), .lit (.int .u64 7934563412932533144), .lit (.int .u64 10282218360005504372), .lit (.int .u64 12288012358878168375)], .agg [.lit (.int .u64 8809917716911230559), .lit (.int .u64 747793036959711645), .lit (.int .u64 16850834916486723776), .lit (.int .u64 17938995913990739068), .lit (.int .u64 6745997240412855337), .lit (.int .u64 3897828414440483951)], .lit (.bool false)]

/-- 'escutcheonlaw05.CurveOn': WHATEVER THE INPUT: true; the input reads as it did. -/
def curveOnSpec : ChangeSpec := { name := "curveOn", fn := fun _ => fun
  | [d1, d2, d3] => { results := [.lit (.bool true)], args := [d1, d2, d3] }
  | _ => none }
def curveOnRow : OpenClaim := { program := "ytpgidlnpcjbfhaadoor", sum := "b18dbafd2fa3ef3e41aba6dfbbb76641fab206e352bfb219f9ecbb7196de70cb", func := "escutcheon/escutcheonlaw05.CurveOn", spec := "curveOn", inPlace := ["math/bits.Sub64", "math/bits.Add64"], named := ["escutcheon/curve.base", "escutcheon/field.prime", "escutcheon/curve.constant", "escutcheon/field.squareOfR"], apart := false, laid := [("escutcheon/field.prime", laid_escutcheon_field_prime), ("escutcheon/field.squareOfR", laid_escutcheon_field_squareOfR), ("escutcheon/curve.constant", laid_escutcheon_curve_constant), ("escutcheon/curve.base", laid_escutcheon_curve_base)] }
def CurveOnSaid : Prop := curveOnRow.holds Tryd.pinned (OpenSpec.ofChange curveOnSpec)

/-- ITS FALSE NEIGHBOUR: 'it returns false'. Refute it at one input. -/
def curveOnWrong : ChangeSpec := { name := "curveOn", fn := fun _ => fun
  | [d1, d2, d3] => { results := [.lit (.bool false)], args := [d1, d2, d3] }
  | _ => none }
def CurveOnWrongFalsely : Prop := curveOnRow.holds Tryd.pinned (OpenSpec.ofChange curveOnWrong)

/-- 'escutcheonlaw05.CurveAdds': WHATEVER THE INPUT: true; the input reads as it did. -/
def curveAddsSpec : ChangeSpec := { name := "curveAdds", fn := fun _ => fun
  | [d1, d2] => { results := [.lit (.bool true)], args := [d1, d2] }
  | _ => none }
def curveAddsRow : OpenClaim := { program := "ytpgidlnpcjbfhaadoor", sum := "b18dbafd2fa3ef3e41aba6dfbbb76641fab206e352bfb219f9ecbb7196de70cb", func := "escutcheon/escutcheonlaw05.CurveAdds", spec := "curveAdds", inPlace := ["math/bits.Sub64", "math/bits.Add64"], named := ["escutcheon/curve.base", "escutcheon/field.prime", "escutcheon/curve.constant", "escutcheon/field.squareOfR"], apart := false, laid := [("escutcheon/field.prime", laid_escutcheon_field_prime), ("escutcheon/field.squareOfR", laid_escutcheon_field_squareOfR), ("escutcheon/curve.constant", laid_escutcheon_curve_constant), ("escutcheon/curve.base", laid_escutcheon_curve_base)] }
def CurveAddsSaid : Prop := curveAddsRow.holds Tryd.pinned (OpenSpec.ofChange curveAddsSpec)

/-- ITS FALSE NEIGHBOUR: 'it returns false'. Refute it at one input. -/
def curveAddsWrong : ChangeSpec := { name := "curveAdds", fn := fun _ => fun
  | [d1, d2] => { results := [.lit (.bool false)], args := [d1, d2] }
  | _ => none }
def CurveAddsWrongFalsely : Prop := curveAddsRow.holds Tryd.pinned (OpenSpec.ofChange curveAddsWrong)

/-- 'escutcheonlaw05.CurveSums': WHATEVER THE INPUT: true; the input reads as it did. -/
def curveSumsSpec : ChangeSpec := { name := "curveSums", fn := fun _ => fun
  | [d1, d2, d3] => { results := [.lit (.bool true)], args := [d1, d2, d3] }
  | _ => none }
def curveSumsRow : OpenClaim := { program := "ytpgidlnpcjbfhaadoor", sum := "b18dbafd2fa3ef3e41aba6dfbbb76641fab206e352bfb219f9ecbb7196de70cb", func := "escutcheon/escutcheonlaw05.CurveSums", spec := "curveSums", inPlace := ["math/bits.Sub64", "math/bits.Add64"], named := ["escutcheon/curve.base", "escutcheon/field.prime", "escutcheon/curve.constant", "escutcheon/field.squareOfR"], apart := false, laid := [("escutcheon/field.prime", laid_escutcheon_field_prime), ("escutcheon/field.squareOfR", laid_escutcheon_field_squareOfR), ("escutcheon/curve.constant", laid_escutcheon_curve_constant), ("escutcheon/curve.base", laid_escutcheon_curve_base)] }
def CurveSumsSaid : Prop := curveSumsRow.holds Tryd.pinned (OpenSpec.ofChange curveSumsSpec)

/-- ITS FALSE NEIGHBOUR: 'it returns false'. Refute it at one input. -/
def curveSumsWrong : ChangeSpec := { name := "curveSums", fn := fun _ => fun
  | [d1, d2, d3] => { results := [.lit (.bool false)], args := [d1, d2, d3] }
  | _ => none }
def CurveSumsWrongFalsely : Prop := curveSumsRow.holds Tryd.pinned (OpenSpec.ofChange curveSumsWrong)

/-- 'escutcheonlaw05.CurveNegs': WHATEVER THE INPUT: true; the input reads as it did. -/
def curveNegsSpec : ChangeSpec := { name := "curveNegs", fn := fun _ => fun
  | [d] => { results := [.lit (.bool true)], args := [d] }
  | _ => none }
def curveNegsRow : OpenClaim := { program := "ytpgidlnpcjbfhaadoor", sum := "b18dbafd2fa3ef3e41aba6dfbbb76641fab206e352bfb219f9ecbb7196de70cb", func := "escutcheon/escutcheonlaw05.CurveNegs", spec := "curveNegs", inPlace := ["math/bits.Sub64", "math/bits.Add64"], named := ["escutcheon/curve.base", "escutcheon/field.prime", "escutcheon/curve.constant", "escutcheon/field.squareOfR"], apart := false, laid := [("escutcheon/field.prime", laid_escutcheon_field_prime), ("escutcheon/field.squareOfR", laid_escutcheon_field_squareOfR), ("escutcheon/curve.constant", laid_escutcheon_curve_constant), ("escutcheon/curve.base", laid_escutcheon_curve_base)] }
def CurveNegsSaid : Prop := curveNegsRow.holds Tryd.pinned (OpenSpec.ofChange curveNegsSpec)

/-- ITS FALSE NEIGHBOUR: 'it returns false'. Refute it at one input. -/
def curveNegsWrong : ChangeSpec := { name := "curveNegs", fn := fun _ => fun
  | [d] => { results := [.lit (.bool false)], args := [d] }
  | _ => none }
def CurveNegsWrongFalsely : Prop := curveNegsRow.holds Tryd.pinned (OpenSpec.ofChange curveNegsWrong)

/-- 'escutcheonlaw05.CurveEncodes': WHATEVER THE INPUT: true; the input reads as it did. -/
def curveEncodesSpec : ChangeSpec := { name := "curveEncodes", fn := fun _ => fun
  | [d] => { results := [.lit (.bool true)], args := [d] }
  | _ => none }
def curveEncodesRow : OpenClaim := { program := "ytpgidlnpcjbfhaadoor", sum := "b18dbafd2fa3ef3e41aba6dfbbb76641fab206e352bfb219f9ecbb7196de70cb", func := "escutcheon/escutcheonlaw05.CurveEncodes", spec := "curveEncodes", inPlace := ["math/bits.Sub64", "math/bits.Add64"], named := ["escutcheon/curve.base", "escutcheon/field.prime", "escutcheon/curve.constant", "escutcheon/field.squareOfR"], apart := false, laid := [("escutcheon/field.prime", laid_escutcheon_field_prime), ("escutcheon/field.squareOfR", laid_escutcheon_field_squareOfR), ("escutcheon/curve.constant", laid_escutcheon_curve_constant), ("escutcheon/curve.base", laid_escutcheon_curve_base)] }
def CurveEncodesSaid : Prop := curveEncodesRow.holds Tryd.pinned (OpenSpec.ofChange curveEncodesSpec)

/-- ITS FALSE NEIGHBOUR: 'it returns false'. Refute it at one input. -/
def curveEncodesWrong : ChangeSpec := { name := "curveEncodes", fn := fun _ => fun
  | [d] => { results := [.lit (.bool false)], args := [d] }
  | _ => none }
def CurveEncodesWrongFalsely : Prop := curveEncodesRow.holds Tryd.pinned (OpenSpec.ofChange curveEncodesWrong)

/-- 'escutcheonlaw05.CurveDecodes': WHATEVER THE INPUT: true; the input reads as it did. -/
def curveDecodesSpec : ChangeSpec := { name := "curveDecodes", fn := fun _ => fun
  | [d] => { results := [.lit (.bool true)], args := [d] }
  | _ => none }
def curveDecodesRow : OpenClaim := { program := "ytpgidlnpcjbfhaadoor", sum := "b18dbafd2fa3ef3e41aba6dfbbb76641fab206e352bfb219f9ecbb7196de70cb", func := "escutcheon/escutcheonlaw05.CurveDecodes", spec := "curveDecodes", inPlace := ["math/bits.Sub64", "math/bits.Add64"], named := ["escutcheon/curve.base", "escutcheon/field.prime", "escutcheon/curve.constant", "escutcheon/field.squareOfR"], apart := false, laid := [("escutcheon/field.prime", laid_escutcheon_field_prime), ("escutcheon/field.squareOfR", laid_escutcheon_field_squareOfR), ("escutcheon/curve.constant", laid_escutcheon_curve_constant), ("escutcheon/curve.base", laid_escutcheon_curve_base)] }
def CurveDecodesSaid : Prop := curveDecodesRow.holds Tryd.pinned (OpenSpec.ofChange curveDecodesSpec)

/-- ITS FALSE NEIGHBOUR: 'it returns false'. Refute it at one input. -/
def curveDecodesWrong : ChangeSpec := { name := "curveDecodes", fn := fun _ => fun
  | [d] => { results := [.lit (.bool false)], args := [d] }
  | _ => none }
def CurveDecodesWrongFalsely : Prop := curveDecodesRow.holds Tryd.pinned (OpenSpec.ofChange curveDecodesWrong)

/- THE SECOND FORM. 'bulk': how many values and letters a reading holds, each counted each time it is reached (what is shared counts as often as it is met; a slice's spare places count too). A statement '..UptoSaid' is the law's where the arguments, and the package variables that the reading takes, are together of bulk at most 1048576: NARROWER than '..Said'. Prove '..Said' where nothing that the law and all that it calls make is longer than what came in: it says more and counts as full. Else prove '..UptoSaid'. A law counts once. -/
mutual
def uptoBulk {H : Type} : DataW H → Nat
  | .lit (.string bytes) => bytes.length + 1
  | .lit _ => 1
  | .nil => 1
  | .ptr d => uptoBulk d + 1
  | .slice elems spare => uptoBulkAll elems + uptoBulkAll spare + 1
  | .agg parts => uptoBulkAll parts + 1
  | .iface _ d => uptoBulk d + 1
  | .map entries => uptoBulkEntries entries + 1
  | .held _ => 1
def uptoBulkAll {H : Type} : List (DataW H) → Nat
  | [] => 0
  | d :: r => uptoBulk d + uptoBulkAll r
def uptoBulkEntries {H : Type} : List (Lit × DataW H) → Nat
  | [] => 0
  | x :: r => uptoBulkEntry x + uptoBulkEntries r
def uptoBulkEntry {H : Type} : Lit × DataW H → Nat
  | (.string bytes, d) => bytes.length + uptoBulk d + 1
  | (_, d) => uptoBulk d + 1
 end
def uptoSmall : (H : Type) → List (DataW H) → Bool := fun _ ds => decide (uptoBulkAll ds ≤ 1048576)
def OpenSpec.upto (s : _root_.Go.ChangeSpec) : _root_.Go.OpenSpec := { _root_.Go.OpenSpec.ofChange s with cond := some uptoSmall }

/-- 'escutcheonlaw05.CurveOn', WHERE WHAT IT READS IS OF BULK AT MOST 1048576: true; the input reads as it did. -/
def curveOnUptoRow : OpenClaim := { program := "ytpgidlnpcjbfhaadoor", sum := "b18dbafd2fa3ef3e41aba6dfbbb76641fab206e352bfb219f9ecbb7196de70cb", func := "escutcheon/escutcheonlaw05.CurveOn", spec := "curveOn", inPlace := ["math/bits.Sub64", "math/bits.Add64"], named := ["escutcheon/curve.base", "escutcheon/field.prime", "escutcheon/curve.constant", "escutcheon/field.squareOfR"], apart := false, laid := [("escutcheon/field.prime", laid_escutcheon_field_prime), ("escutcheon/field.squareOfR", laid_escutcheon_field_squareOfR), ("escutcheon/curve.constant", laid_escutcheon_curve_constant), ("escutcheon/curve.base", laid_escutcheon_curve_base)], narrowed := true }
def CurveOnUptoSaid : Prop := curveOnUptoRow.holds Tryd.pinned (OpenSpec.upto curveOnSpec)

/-- 'escutcheonlaw05.CurveAdds', WHERE WHAT IT READS IS OF BULK AT MOST 1048576: true; the input reads as it did. -/
def curveAddsUptoRow : OpenClaim := { program := "ytpgidlnpcjbfhaadoor", sum := "b18dbafd2fa3ef3e41aba6dfbbb76641fab206e352bfb219f9ecbb7196de70cb", func := "escutcheon/escutcheonlaw05.CurveAdds", spec := "curveAdds", inPlace := ["math/bits.Sub64", "math/bits.Add64"], named := ["escutcheon/curve.base", "escutcheon/field.prime", "escutcheon/curve.constant", "escutcheon/field.squareOfR"], apart := false, laid := [("escutcheon/field.prime", laid_escutcheon_field_prime), ("escutcheon/field.squareOfR", laid_escutcheon_field_squareOfR), ("escutcheon/curve.constant", laid_escutcheon_curve_constant), ("escutcheon/curve.base", laid_escutcheon_curve_base)], narrowed := true }
def CurveAddsUptoSaid : Prop := curveAddsUptoRow.holds Tryd.pinned (OpenSpec.upto curveAddsSpec)

/-- 'escutcheonlaw05.CurveSums', WHERE WHAT IT READS IS OF BULK AT MOST 1048576: true; the input reads as it did. -/
def curveSumsUptoRow : OpenClaim := { program := "ytpgidlnpcjbfhaadoor", sum := "b18dbafd2fa3ef3e41aba6dfbbb76641fab206e352bfb219f9ecbb7196de70cb", func := "escutcheon/escutcheonlaw05.CurveSums", spec := "curveSums", inPlace := ["math/bits.Sub64", "math/bits.Add64"], named := ["escutcheon/curve.base", "escutcheon/field.prime", "escutcheon/curve.constant", "escutcheon/field.squareOfR"], apart := false, laid := [("escutcheon/field.prime", laid_escutcheon_field_prime), ("escutcheon/field.squareOfR", laid_escutcheon_field_squareOfR), ("escutcheon/curve.constant", laid_escutcheon_curve_constant), ("escutcheon/curve.base", laid_escutcheon_curve_base)], narrowed := true }
def CurveSumsUptoSaid : Prop := curveSumsUptoRow.holds Tryd.pinned (OpenSpec.upto curveSumsSpec)

/-- 'escutcheonlaw05.CurveNegs', WHERE WHAT IT READS IS OF BULK AT MOST 1048576: true; the input reads as it did. -/
def curveNegsUptoRow : OpenClaim := { program := "ytpgidlnpcjbfhaadoor", sum := "b18dbafd2fa3ef3e41aba6dfbbb76641fab206e352bfb219f9ecbb7196de70cb", func := "escutcheon/escutcheonlaw05.CurveNegs", spec := "curveNegs", inPlace := ["math/bits.Sub64", "math/bits.Add64"], named := ["escutcheon/curve.base", "escutcheon/field.prime", "escutcheon/curve.constant", "escutcheon/field.squareOfR"], apart := false, laid := [("escutcheon/field.prime", laid_escutcheon_field_prime), ("escutcheon/field.squareOfR", laid_escutcheon_field_squareOfR), ("escutcheon/curve.constant", laid_escutcheon_curve_constant), ("escutcheon/curve.base", laid_escutcheon_curve_base)], narrowed := true }
def CurveNegsUptoSaid : Prop := curveNegsUptoRow.holds Tryd.pinned (OpenSpec.upto curveNegsSpec)

/-- 'escutcheonlaw05.CurveEncodes', WHERE WHAT IT READS IS OF BULK AT MOST 1048576: true; the input reads as it did. -/
def curveEncodesUptoRow : OpenClaim := { program := "ytpgidlnpcjbfhaadoor", sum := "b18dbafd2fa3ef3e41aba6dfbbb76641fab206e352bfb219f9ecbb7196de70cb", func := "escutcheon/escutcheonlaw05.CurveEncodes", spec := "curveEncodes", inPlace := ["math/bits.Sub64", "math/bits.Add64"], named := ["escutcheon/curve.base", "escutcheon/field.prime", "escutcheon/curve.constant", "escutcheon/field.squareOfR"], apart := false, laid := [("escutcheon/field.prime", laid_escutcheon_field_prime), ("escutcheon/field.squareOfR", laid_escutcheon_field_squareOfR), ("escutcheon/curve.constant", laid_escutcheon_curve_constant), ("escutcheon/curve.base", laid_escutcheon_curve_base)], narrowed := true }
def CurveEncodesUptoSaid : Prop := curveEncodesUptoRow.holds Tryd.pinned (OpenSpec.upto curveEncodesSpec)

/-- 'escutcheonlaw05.CurveDecodes', WHERE WHAT IT READS IS OF BULK AT MOST 1048576: true; the input reads as it did. -/
def curveDecodesUptoRow : OpenClaim := { program := "ytpgidlnpcjbfhaadoor", sum := "b18dbafd2fa3ef3e41aba6dfbbb76641fab206e352bfb219f9ecbb7196de70cb", func := "escutcheon/escutcheonlaw05.CurveDecodes", spec := "curveDecodes", inPlace := ["math/bits.Sub64", "math/bits.Add64"], named := ["escutcheon/curve.base", "escutcheon/field.prime", "escutcheon/curve.constant", "escutcheon/field.squareOfR"], apart := false, laid := [("escutcheon/field.prime", laid_escutcheon_field_prime), ("escutcheon/field.squareOfR", laid_escutcheon_field_squareOfR), ("escutcheon/curve.constant", laid_escutcheon_curve_constant), ("escutcheon/curve.base", laid_escutcheon_curve_base)], narrowed := true }
def CurveDecodesUptoSaid : Prop := curveDecodesUptoRow.holds Tryd.pinned (OpenSpec.upto curveDecodesSpec)

end Rows
end Go.Proofs.YtpgidlnpcjbfhaaDoor
