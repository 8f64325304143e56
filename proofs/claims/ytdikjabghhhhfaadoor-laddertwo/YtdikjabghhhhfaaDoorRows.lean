/-
  NARROWER THAN 'FOR EVERY INPUT', by the rows' own cells (each row's printed sentence says how): LadderMuls: laid · LadderBase: laid · LadderTwo: laid · LadderTraced: laid · LadderAdds: laid · LadderOrder: laid.
  DERIVED. THE GIVEN ROWS OF THIS SEAT. 6 by the template 'for every input the law returns true; each argument reads behind the call as it read before'; 0 by the template 'total and deterministic' (their statements: YtdikjabghhhhfaaDoorTotals.lean).
  GIVEN WITH THE SEED: the statements are not yours to turn. If you find one false, say at which input.
  Laid BY PROGRAM, IN A SANDBOX (cutbox-rows.mjs): the forced cells as the released guide's own fill.sh prints them over the translation 7947c5284eb72eef… (all of the seat's roots in one cut). By AI agents, Wed Nov 11 2026. No macro, syntax, notation, axiom, sorry.
-/
import Derived.Test.YtdikjabghhhhfaaDoorChecked
import GoSem.Claim
import GoSem.ClaimJoined
import GoSem.ClaimMapViews
import Derived.JoinedTies
import Derived.KernelRfl
namespace Go.Proofs.YtdikjabghhhhfaaDoor
/- THE CELL 'sum', in the pinned program and in every row, IS THE sha256 OF THE DUMP (.gsa) THAT YtdikjabghhhhfaaDoorProg.lean LOADS. Nothing in Lean hashes anything: it is a label: what it is worth is what the hold of that sum in a sandbox is worth. -/
noncomputable def Tryd.pinned : Pinned := { name := "ytdikjabghhhhfaadoor", sum := "7947c5284eb72eefab2002e98fe20280dd449d420f18ad302a0eb85b4fea708e", checked := Tryd.checked }
namespace Rows
def none {H : Type} : Left H := { results := [], args := [] }

/- WHAT THE LISTED PACKAGE-LEVEL VARIABLES READ AS WHEN THE CALL BEGINS. Each datum BY PROGRAM (the guide's laid-datum.mjs) off the statement by which the dump's own 'gosem.cut.vars' lays the variable. In a bare row this is a premise. The card (YtdikjabghhhhfaaDoorCards.lean) ties it to the program's text. -/
def laid_escutcheon_field_prime {H : Type} : DataW H := .agg [.lit (.int .u64 4294967295), .lit (.int .u64 18446744069414584320), .lit (.int .u64 18446744073709551614), .lit (.int .u64 18446744073709551615), .lit (.int .u64 18446744073709551615), .lit (.int .u64 18446744073709551615)]
def laid_escutcheon_field_squareOfR {H : Type} : DataW H := .agg [.lit (.int .u64 18446744065119617025), .lit (.int .u64 8589934592), .lit (.int .u64 18446744065119617024), .lit (.int .u64 8589934592), .lit (.int .u64 1), .lit (.int .u64 0)]
def laid_escutcheon_curve_constant {H : Type} : DataW H := .agg [.lit (.int .u64 3064076045283764975), .lit (.int .u64 14291673747578343837), .lit (.int .u64 221811693264799578), .lit (.int .u64 1737717031765098770), .lit (.int .u64 10992729701402291481), .lit (.int .u64 12912154004749740004)]
def laid_escutcheon_curve_base {H : Type} : DataW H := .agg [.agg [.lit (.int .u64 4203087948775033527), .lit (.int .u64 6125724927633205612), .lit (.int .u64 6482722621138151992), .lit (.int .u64 7934563412932533144), .lit (.int .u64 10282218360005504372), .lit (.int .u64 12288012358878168375)], .agg [.lit (.int .u64 8809917716911230559), .lit (.int .u64 747793036959711645), .lit (.int .u64 16850834916486723776), .lit (.int .u64 17938995913990739068), .lit (.int .u64 6745997240412855337), .lit (.int .u64 3897828414440483951)], .lit (.bool false)]
def laid_escutcheon_order_points {H : Type} : DataW H := .agg [.lit (.int .u64 17072048233947408755), .lit (.int .u64 6348401684107011962), .lit (.int .u64 14367412456785391071), .lit (.int .u64 18446744073709551615), .lit (.int .u64 18446744073709551615), .lit (.int .u64 18446744073709551615)]
def laid_escutcheon_order_squareOfR {H : Type} : DataW H := .agg [.lit (.int .u64 3256554584917936553), .lit (.int .u64 18391999277541532697), .lit (.int .u64 13564358545871743303), .lit (.int .u64 15279949475123764421), .lit (.int .u64 4589268600508278933), .lit (.int .u64 902107514168524577)]

/-- 'escutcheonlaw06.LadderMuls': WHATEVER THE INPUT: true; the input reads as it did. -/
def ladderMulsSpec : ChangeSpec := { name := "ladderMuls", fn := fun _ => fun
  | [d1, d2] => { results := [.lit (.bool true)], args := [d1, d2] }
  | _ => none }
def ladderMulsRow : OpenClaim := { program := "ytdikjabghhhhfaadoor", sum := "7947c5284eb72eefab2002e98fe20280dd449d420f18ad302a0eb85b4fea708e", func := "escutcheon/escutcheonlaw06.LadderMuls", spec := "ladderMuls", inPlace := ["math/bits.Sub64", "math/bits.Add64"], unfollowed := true, recurses := true, named := ["escutcheon/curve.base", "escutcheon/field.prime", "escutcheon/curve.constant", "escutcheon/field.squareOfR"], apart := false, laid := [("escutcheon/field.prime", laid_escutcheon_field_prime), ("escutcheon/field.squareOfR", laid_escutcheon_field_squareOfR), ("escutcheon/curve.constant", laid_escutcheon_curve_constant), ("escutcheon/curve.base", laid_escutcheon_curve_base)] }
def LadderMulsSaid : Prop := ladderMulsRow.holds Tryd.pinned (OpenSpec.ofChange ladderMulsSpec)

/-- ITS FALSE NEIGHBOUR: 'it returns false'. Refute it at one input. -/
def ladderMulsWrong : ChangeSpec := { name := "ladderMuls", fn := fun _ => fun
  | [d1, d2] => { results := [.lit (.bool false)], args := [d1, d2] }
  | _ => none }
def LadderMulsWrongFalsely : Prop := ladderMulsRow.holds Tryd.pinned (OpenSpec.ofChange ladderMulsWrong)

/-- 'escutcheonlaw06.LadderBase': WHATEVER THE INPUT: true; the input reads as it did. -/
def ladderBaseSpec : ChangeSpec := { name := "ladderBase", fn := fun _ => fun
  | [d] => { results := [.lit (.bool true)], args := [d] }
  | _ => none }
def ladderBaseRow : OpenClaim := { program := "ytdikjabghhhhfaadoor", sum := "7947c5284eb72eefab2002e98fe20280dd449d420f18ad302a0eb85b4fea708e", func := "escutcheon/escutcheonlaw06.LadderBase", spec := "ladderBase", inPlace := ["math/bits.Sub64", "math/bits.Add64"], unfollowed := true, recurses := true, named := ["escutcheon/curve.base", "escutcheon/field.prime", "escutcheon/curve.constant", "escutcheon/field.squareOfR"], apart := false, laid := [("escutcheon/field.prime", laid_escutcheon_field_prime), ("escutcheon/field.squareOfR", laid_escutcheon_field_squareOfR), ("escutcheon/curve.constant", laid_escutcheon_curve_constant), ("escutcheon/curve.base", laid_escutcheon_curve_base)] }
def LadderBaseSaid : Prop := ladderBaseRow.holds Tryd.pinned (OpenSpec.ofChange ladderBaseSpec)

/-- ITS FALSE NEIGHBOUR: 'it returns false'. Refute it at one input. -/
def ladderBaseWrong : ChangeSpec := { name := "ladderBase", fn := fun _ => fun
  | [d] => { results := [.lit (.bool false)], args := [d] }
  | _ => none }
def LadderBaseWrongFalsely : Prop := ladderBaseRow.holds Tryd.pinned (OpenSpec.ofChange ladderBaseWrong)

/-- 'escutcheonlaw06.LadderTwo': WHATEVER THE INPUT: true; the input reads as it did. -/
def ladderTwoSpec : ChangeSpec := { name := "ladderTwo", fn := fun _ => fun
  | [d1, d2, d3] => { results := [.lit (.bool true)], args := [d1, d2, d3] }
  | _ => none }
def ladderTwoRow : OpenClaim := { program := "ytdikjabghhhhfaadoor", sum := "7947c5284eb72eefab2002e98fe20280dd449d420f18ad302a0eb85b4fea708e", func := "escutcheon/escutcheonlaw06.LadderTwo", spec := "ladderTwo", inPlace := ["math/bits.Sub64", "math/bits.Add64"], unfollowed := true, recurses := true, named := ["escutcheon/curve.base", "escutcheon/field.prime", "escutcheon/curve.constant", "escutcheon/field.squareOfR"], apart := false, laid := [("escutcheon/field.prime", laid_escutcheon_field_prime), ("escutcheon/field.squareOfR", laid_escutcheon_field_squareOfR), ("escutcheon/curve.constant", laid_escutcheon_curve_constant), ("escutcheon/curve.base", laid_escutcheon_curve_base)] }
def LadderTwoSaid : Prop := ladderTwoRow.holds Tryd.pinned (OpenSpec.ofChange ladderTwoSpec)

/-- ITS FALSE NEIGHBOUR: 'it returns false'. Refute it at one input. -/
def ladderTwoWrong : ChangeSpec := { name := "ladderTwo", fn := fun _ => fun
  | [d1, d2, d3] => { results := [.lit (.bool false)], args := [d1, d2, d3] }
  | _ => none }
def LadderTwoWrongFalsely : Prop := ladderTwoRow.holds Tryd.pinned (OpenSpec.ofChange ladderTwoWrong)

/-- 'escutcheonlaw06.LadderTraced': WHATEVER THE INPUT: true; the input reads as it did. -/
def ladderTracedSpec : ChangeSpec := { name := "ladderTraced", fn := fun _ => fun
  | [d1, d2] => { results := [.lit (.bool true)], args := [d1, d2] }
  | _ => none }
def ladderTracedRow : OpenClaim := { program := "ytdikjabghhhhfaadoor", sum := "7947c5284eb72eefab2002e98fe20280dd449d420f18ad302a0eb85b4fea708e", func := "escutcheon/escutcheonlaw06.LadderTraced", spec := "ladderTraced", inPlace := ["math/bits.Sub64", "math/bits.Add64"], unfollowed := true, recurses := true, named := ["escutcheon/curve.base", "escutcheon/field.prime", "escutcheon/curve.constant", "escutcheon/field.squareOfR"], apart := false, laid := [("escutcheon/field.prime", laid_escutcheon_field_prime), ("escutcheon/field.squareOfR", laid_escutcheon_field_squareOfR), ("escutcheon/curve.constant", laid_escutcheon_curve_constant), ("escutcheon/curve.base", laid_escutcheon_curve_base)] }
def LadderTracedSaid : Prop := ladderTracedRow.holds Tryd.pinned (OpenSpec.ofChange ladderTracedSpec)

/-- ITS FALSE NEIGHBOUR: 'it returns false'. Refute it at one input. -/
def ladderTracedWrong : ChangeSpec := { name := "ladderTraced", fn := fun _ => fun
  | [d1, d2] => { results := [.lit (.bool false)], args := [d1, d2] }
  | _ => none }
def LadderTracedWrongFalsely : Prop := ladderTracedRow.holds Tryd.pinned (OpenSpec.ofChange ladderTracedWrong)

/-- 'escutcheonlaw06.LadderAdds': WHATEVER THE INPUT: true; the input reads as it did. -/
def ladderAddsSpec : ChangeSpec := { name := "ladderAdds", fn := fun _ => fun
  | [d1, d2] => { results := [.lit (.bool true)], args := [d1, d2] }
  | _ => none }
def ladderAddsRow : OpenClaim := { program := "ytdikjabghhhhfaadoor", sum := "7947c5284eb72eefab2002e98fe20280dd449d420f18ad302a0eb85b4fea708e", func := "escutcheon/escutcheonlaw06.LadderAdds", spec := "ladderAdds", inPlace := ["math/bits.Sub64", "math/bits.Add64"], unfollowed := true, recurses := true, named := ["escutcheon/curve.base", "escutcheon/field.prime", "escutcheon/curve.constant", "escutcheon/field.squareOfR", "escutcheon/order.points", "escutcheon/order.squareOfR"], apart := false, laid := [("escutcheon/field.prime", laid_escutcheon_field_prime), ("escutcheon/field.squareOfR", laid_escutcheon_field_squareOfR), ("escutcheon/curve.constant", laid_escutcheon_curve_constant), ("escutcheon/curve.base", laid_escutcheon_curve_base), ("escutcheon/order.points", laid_escutcheon_order_points), ("escutcheon/order.squareOfR", laid_escutcheon_order_squareOfR)] }
def LadderAddsSaid : Prop := ladderAddsRow.holds Tryd.pinned (OpenSpec.ofChange ladderAddsSpec)

/-- ITS FALSE NEIGHBOUR: 'it returns false'. Refute it at one input. -/
def ladderAddsWrong : ChangeSpec := { name := "ladderAdds", fn := fun _ => fun
  | [d1, d2] => { results := [.lit (.bool false)], args := [d1, d2] }
  | _ => none }
def LadderAddsWrongFalsely : Prop := ladderAddsRow.holds Tryd.pinned (OpenSpec.ofChange ladderAddsWrong)

/-- 'escutcheonlaw06.LadderOrder': WHATEVER THE INPUT: true; the input reads as it did. -/
def ladderOrderSpec : ChangeSpec := { name := "ladderOrder", fn := fun _ => fun
  | [d] => { results := [.lit (.bool true)], args := [d] }
  | _ => none }
def ladderOrderRow : OpenClaim := { program := "ytdikjabghhhhfaadoor", sum := "7947c5284eb72eefab2002e98fe20280dd449d420f18ad302a0eb85b4fea708e", func := "escutcheon/escutcheonlaw06.LadderOrder", spec := "ladderOrder", inPlace := ["math/bits.Sub64", "math/bits.Add64"], unfollowed := true, recurses := true, named := ["escutcheon/curve.base", "escutcheon/field.prime", "escutcheon/curve.constant", "escutcheon/field.squareOfR"], apart := false, laid := [("escutcheon/field.prime", laid_escutcheon_field_prime), ("escutcheon/field.squareOfR", laid_escutcheon_field_squareOfR), ("escutcheon/curve.constant", laid_escutcheon_curve_constant), ("escutcheon/curve.base", laid_escutcheon_curve_base)] }
def LadderOrderSaid : Prop := ladderOrderRow.holds Tryd.pinned (OpenSpec.ofChange ladderOrderSpec)

/-- ITS FALSE NEIGHBOUR: 'it returns false'. Refute it at one input. -/
def ladderOrderWrong : ChangeSpec := { name := "ladderOrder", fn := fun _ => fun
  | [d] => { results := [.lit (.bool false)], args := [d] }
  | _ => none }
def LadderOrderWrongFalsely : Prop := ladderOrderRow.holds Tryd.pinned (OpenSpec.ofChange ladderOrderWrong)

/- THE SECOND FORM. 'bulk': how many values and letters a reading holds, each counted each time it is reached (what is shared counts as often as it is met; a slice's spare places count too). A statement '..UptoSaid' is the law's where the arguments, and the package variables that the reading takes, are together of bulk at most 1048576: NARROWER than '..Said'. Prove '..Said' where nothing that the law and all that it calls make is longer than what came in: it says more and counts as full. Else prove '..UptoSaid'. A law counts once. -/
mutual
def uptoBulk {H : Type} : DataW H → Nat
  | .lit (.string bytes) => bytes.length + 1
  | .lit _ => 1
  | .nil => 1
  | .ptr d => uptoBulk d + 1
  | .slice elems spare => uptoBulkAll elems + uptoBulkAll spare + 1
  | .agg parts => uptoBulkAll parts + 1
  | .iface _ d => uptoBulk d + 1
  | .map entries => uptoBulkEntries entries + 1
  | .held _ => 1
def uptoBulkAll {H : Type} : List (DataW H) → Nat
  | [] => 0
  | d :: r => uptoBulk d + uptoBulkAll r
def uptoBulkEntries {H : Type} : List (Lit × DataW H) → Nat
  | [] => 0
  | x :: r => uptoBulkEntry x + uptoBulkEntries r
def uptoBulkEntry {H : Type} : Lit × DataW H → Nat
  | (.string bytes, d) => bytes.length + uptoBulk d + 1
  | (_, d) => uptoBulk d + 1
 end
def uptoSmall : (H : Type) → List (DataW H) → Bool := fun _ ds => decide (uptoBulkAll ds ≤ 1048576)
def OpenSpec.upto (s : _root_.Go.ChangeSpec) : _root_.Go.OpenSpec := { _root_.Go.OpenSpec.ofChange s with cond := some uptoSmall }

/-- 'escutcheonlaw06.LadderMuls', WHERE WHAT IT READS IS OF BULK AT MOST 1048576: true; the input reads as it did. -/
def ladderMulsUptoRow : OpenClaim := { program := "ytdikjabghhhhfaadoor", sum := "7947c5284eb72eefab2002e98fe20280dd449d420f18ad302a0eb85b4fea708e", func := "escutcheon/escutcheonlaw06.LadderMuls", spec := "ladderMuls", inPlace := ["math/bits.Sub64", "math/bits.Add64"], unfollowed := true, recurses := true, named := ["escutcheon/curve.base", "escutcheon/field.prime", "escutcheon/curve.constant", "escutcheon/field.squareOfR"], apart := false, laid := [("escutcheon/field.prime", laid_escutcheon_field_prime), ("escutcheon/field.squareOfR", laid_escutcheon_field_squareOfR), ("escutcheon/curve.constant", laid_escutcheon_curve_constant), ("escutcheon/curve.base", laid_escutcheon_curve_base)], narrowed := true }
def LadderMulsUptoSaid : Prop := ladderMulsUptoRow.holds Tryd.pinned (OpenSpec.upto ladderMulsSpec)

/-- 'escutcheonlaw06.LadderBase', WHERE WHAT IT READS IS OF BULK AT MOST 1048576: true; the input reads as it did. -/
def ladderBaseUptoRow : OpenClaim := { program := "ytdikjabghhhhfaadoor", sum := "7947c5284eb72eefab2002e98fe20280dd449d420f18ad302a0eb85b4fea708e", func := "escutcheon/escutcheonlaw06.LadderBase", spec := "ladderBase", inPlace := ["math/bits.Sub64", "math/bits.Add64"], unfollowed := true, recurses := true, named := ["escutcheon/curve.base", "escutcheon/field.prime", "escutcheon/curve.constant", "escutcheon/field.squareOfR"], apart := false, laid := [("escutcheon/field.prime", laid_escutcheon_field_prime), ("escutcheon/field.squareOfR", laid_escutcheon_field_squareOfR), ("escutcheon/curve.constant", laid_escutcheon_curve_constant), ("escutcheon/curve.base", laid_escutcheon_curve_base)], narrowed := true }
def LadderBaseUptoSaid : Prop := ladderBaseUptoRow.holds Tryd.pinned (OpenSpec.upto ladderBaseSpec)

/-- 'escutcheonlaw06.LadderTwo', WHERE WHAT IT READS IS OF BULK AT MOST 1048576: true; the input reads as it did. -/
def ladderTwoUptoRow : OpenClaim := { program := "ytdikjabghhhhfaadoor", sum := "7947c5284eb72eefab2002e98fe20280dd449d420f18ad302a0eb85b4fea708e", func := "escutcheon/escutcheonlaw06.LadderTwo", spec := "ladderTwo", inPlace := ["math/bits.Sub64", "math/bits.Add64"], unfollowed := true, recurses := true, named := ["escutcheon/curve.base", "escutcheon/field.prime", "escutcheon/curve.constant", "escutcheon/field.squareOfR"], apart := false, laid := [("escutcheon/field.prime", laid_escutcheon_field_prime), ("escutcheon/field.squareOfR", laid_escutcheon_field_squareOfR), ("escutcheon/curve.constant", laid_escutcheon_curve_constant), ("escutcheon/curve.base", laid_escutcheon_curve_base)], narrowed := true }
def LadderTwoUptoSaid : Prop := ladderTwoUptoRow.holds Tryd.pinned (OpenSpec.upto ladderTwoSpec)

/-- 'escutcheonlaw06.LadderTraced', WHERE WHAT IT READS IS OF BULK AT MOST 1048576: true; the input reads as it did. -/
def ladderTracedUptoRow : OpenClaim := { program := "ytdikjabghhhhfaadoor", sum := "7947c5284eb72eefab2002e98fe20280dd449d420f18ad302a0eb85b4fea708e", func := "escutcheon/escutcheonlaw06.LadderTraced", spec := "ladderTraced", inPlace := ["math/bits.Sub64", "math/bits.Add64"], unfollowed := true, recurses := true, named := ["escutcheon/curve.base", "escutcheon/field.prime", "escutcheon/curve.constant", "escutcheon/field.squareOfR"], apart := false, laid := [("escutcheon/field.prime", laid_escutcheon_field_prime), ("escutcheon/field.squareOfR", laid_escutcheon_field_squareOfR), ("escutcheon/curve.constant", laid_escutcheon_curve_constant), ("escutcheon/curve.base", laid_escutcheon_curve_base)], narrowed := true }
def LadderTracedUptoSaid : Prop := ladderTracedUptoRow.holds Tryd.pinned (OpenSpec.upto ladderTracedSpec)

/-- 'escutcheonlaw06.LadderAdds', WHERE WHAT IT READS IS OF BULK AT MOST 1048576: true; the input reads as it did. -/
def ladderAddsUptoRow : OpenClaim := { program := "ytdikjabghhhhfaadoor", sum := "7947c5284eb72eefab2002e98fe20280dd449d420f18ad302a0eb85b4fea708e", func := "escutcheon/escutcheonlaw06.LadderAdds", spec := "ladderAdds", inPlace := ["math/bits.Sub64", "math/bits.Add64"], unfollowed := true, recurses := true, named := ["escutcheon/curve.base", "escutcheon/field.prime", "escutcheon/curve.constant", "escutcheon/field.squareOfR", "escutcheon/order.points", "escutcheon/order.squareOfR"], apart := false, laid := [("escutcheon/field.prime", laid_escutcheon_field_prime), ("escutcheon/field.squareOfR", laid_escutcheon_field_squareOfR), ("escutcheon/curve.constant", laid_escutcheon_curve_constant), ("escutcheon/curve.base", laid_escutcheon_curve_base), ("escutcheon/order.points", laid_escutcheon_order_points), ("escutcheon/order.squareOfR", laid_escutcheon_order_squareOfR)], narrowed := true }
def LadderAddsUptoSaid : Prop := ladderAddsUptoRow.holds Tryd.pinned (OpenSpec.upto ladderAddsSpec)

/-- 'escutcheonlaw06.LadderOrder', WHERE WHAT IT READS IS OF BULK AT MOST 1048576: true; the input reads as it did. -/
def ladderOrderUptoRow : OpenClaim := { program := "ytdikjabghhhhfaadoor", sum := "7947c5284eb72eefab2002e98fe20280dd449d420f18ad302a0eb85b4fea708e", func := "escutcheon/escutcheonlaw06.LadderOrder", spec := "ladderOrder", inPlace := ["math/bits.Sub64", "math/bits.Add64"], unfollowed := true, recurses := true, named := ["escutcheon/curve.base", "escutcheon/field.prime", "escutcheon/curve.constant", "escutcheon/field.squareOfR"], apart := false, laid := [("escutcheon/field.prime", laid_escutcheon_field_prime), ("escutcheon/field.squareOfR", laid_escutcheon_field_squareOfR), ("escutcheon/curve.constant", laid_escutcheon_curve_constant), ("escutcheon/curve.base", laid_escutcheon_curve_base)], narrowed := true }
def LadderOrderUptoSaid : Prop := ladderOrderUptoRow.holds Tryd.pinned (OpenSpec.upto ladderOrderSpec)

end Rows
end Go.Proofs.YtdikjabghhhhfaaDoor
