/-
  No cell of these rows narrows 'for every input' (looked for: loops, veiled, ifaces, maps, wideKeys, modest, calm, conditions, laid).
  DERIVED. THE GIVEN ROWS OF THIS SEAT. 6 by the template 'for every input the law returns true; each argument reads behind the call as it read before'; 0 by the template 'total and deterministic' (their statements: YteejcokpkginbabTotals.lean).
  GIVEN WITH THE SEED: the statements are not yours to turn. If you find one false, say at which input.
  Laid BY PROGRAM, IN A SANDBOX (cutbox-rows.mjs): the forced cells as the released guide's own fill.sh prints them over the translation 5b2267e2d1eaacca… (all of the seat's roots in one cut). By AI agents, Wed Nov 11 2026. No macro, syntax, notation, axiom, sorry.
-/
import Derived.Test.YteejcokpkginbabChecked
import GoSem.Claim
import GoSem.ClaimJoined
import GoSem.ClaimMapViews
import Derived.JoinedTies
import Derived.KernelRfl
namespace Go.Proofs.Yteejcokpkginbab
/- THE CELL 'sum', in the pinned program and in every row, IS THE sha256 OF THE DUMP (.gsa) THAT YteejcokpkginbabProg.lean LOADS. Nothing in Lean hashes anything: it is a label: what it is worth is what the hold of that sum in a sandbox is worth. -/
noncomputable def Try.pinned : Pinned := { name := "yteejcokpkginbab", sum := "5b2267e2d1eaaccad4d0a81f52bddce07e83c2f922cb4338a837356aca242fbf", checked := Try.checked }
namespace Rows
def none {H : Type} : Left H := { results := [], args := [] }

/-- 'escutcheonlaw13.PrimBits': WHATEVER THE INPUT: true; the input reads as it did. -/
def primBitsSpec : ChangeSpec := { name := "primBits", fn := fun _ => fun
  | [d] => { results := [.lit (.bool true)], args := [d] }
  | _ => none }
def primBitsRow : OpenClaim := { program := "yteejcokpkginbab", sum := "5b2267e2d1eaaccad4d0a81f52bddce07e83c2f922cb4338a837356aca242fbf", func := "escutcheon/escutcheonlaw13.PrimBits", spec := "primBits", apart := false }
def PrimBitsSaid : Prop := primBitsRow.holds Try.pinned (OpenSpec.ofChange primBitsSpec)

/-- ITS FALSE NEIGHBOUR: 'it returns false'. Refute it at one input. -/
def primBitsWrong : ChangeSpec := { name := "primBits", fn := fun _ => fun
  | [d] => { results := [.lit (.bool false)], args := [d] }
  | _ => none }
def PrimBitsWrongFalsely : Prop := primBitsRow.holds Try.pinned (OpenSpec.ofChange primBitsWrong)

/-- 'escutcheonlaw13.PrimTruth': WHATEVER THE INPUT: true; the input reads as it did. -/
def primTruthSpec : ChangeSpec := { name := "primTruth", fn := fun _ => fun
  | [d] => { results := [.lit (.bool true)], args := [d] }
  | _ => none }
def primTruthRow : OpenClaim := { program := "yteejcokpkginbab", sum := "5b2267e2d1eaaccad4d0a81f52bddce07e83c2f922cb4338a837356aca242fbf", func := "escutcheon/escutcheonlaw13.PrimTruth", spec := "primTruth", apart := false }
def PrimTruthSaid : Prop := primTruthRow.holds Try.pinned (OpenSpec.ofChange primTruthSpec)

/-- ITS FALSE NEIGHBOUR: 'it returns false'. Refute it at one input. -/
def primTruthWrong : ChangeSpec := { name := "primTruth", fn := fun _ => fun
  | [d] => { results := [.lit (.bool false)], args := [d] }
  | _ => none }
def PrimTruthWrongFalsely : Prop := primTruthRow.holds Try.pinned (OpenSpec.ofChange primTruthWrong)

/-- 'escutcheonlaw13.PrimText': WHATEVER THE INPUT: true; the input reads as it did. -/
def primTextSpec : ChangeSpec := { name := "primText", fn := fun _ => fun
  | [d] => { results := [.lit (.bool true)], args := [d] }
  | _ => none }
def primTextRow : OpenClaim := { program := "yteejcokpkginbab", sum := "5b2267e2d1eaaccad4d0a81f52bddce07e83c2f922cb4338a837356aca242fbf", func := "escutcheon/escutcheonlaw13.PrimText", spec := "primText", apart := false }
def PrimTextSaid : Prop := primTextRow.holds Try.pinned (OpenSpec.ofChange primTextSpec)

/-- ITS FALSE NEIGHBOUR: 'it returns false'. Refute it at one input. -/
def primTextWrong : ChangeSpec := { name := "primText", fn := fun _ => fun
  | [d] => { results := [.lit (.bool false)], args := [d] }
  | _ => none }
def PrimTextWrongFalsely : Prop := primTextRow.holds Try.pinned (OpenSpec.ofChange primTextWrong)

/-- 'escutcheonlaw13.PrimTime': WHATEVER THE INPUT: true; the input reads as it did. -/
def primTimeSpec : ChangeSpec := { name := "primTime", fn := fun _ => fun
  | [d1, d2] => { results := [.lit (.bool true)], args := [d1, d2] }
  | _ => none }
def primTimeRow : OpenClaim := { program := "yteejcokpkginbab", sum := "5b2267e2d1eaaccad4d0a81f52bddce07e83c2f922cb4338a837356aca242fbf", func := "escutcheon/escutcheonlaw13.PrimTime", spec := "primTime", apart := false }
def PrimTimeSaid : Prop := primTimeRow.holds Try.pinned (OpenSpec.ofChange primTimeSpec)

/-- ITS FALSE NEIGHBOUR: 'it returns false'. Refute it at one input. -/
def primTimeWrong : ChangeSpec := { name := "primTime", fn := fun _ => fun
  | [d1, d2] => { results := [.lit (.bool false)], args := [d1, d2] }
  | _ => none }
def PrimTimeWrongFalsely : Prop := primTimeRow.holds Try.pinned (OpenSpec.ofChange primTimeWrong)

/-- 'escutcheonlaw13.PrimTimeOf': WHATEVER THE INPUT: true; the input reads as it did. -/
def primTimeOfSpec : ChangeSpec := { name := "primTimeOf", fn := fun _ => fun
  | [d] => { results := [.lit (.bool true)], args := [d] }
  | _ => none }
def primTimeOfRow : OpenClaim := { program := "yteejcokpkginbab", sum := "5b2267e2d1eaaccad4d0a81f52bddce07e83c2f922cb4338a837356aca242fbf", func := "escutcheon/escutcheonlaw13.PrimTimeOf", spec := "primTimeOf", apart := false }
def PrimTimeOfSaid : Prop := primTimeOfRow.holds Try.pinned (OpenSpec.ofChange primTimeOfSpec)

/-- ITS FALSE NEIGHBOUR: 'it returns false'. Refute it at one input. -/
def primTimeOfWrong : ChangeSpec := { name := "primTimeOf", fn := fun _ => fun
  | [d] => { results := [.lit (.bool false)], args := [d] }
  | _ => none }
def PrimTimeOfWrongFalsely : Prop := primTimeOfRow.holds Try.pinned (OpenSpec.ofChange primTimeOfWrong)

/-- 'escutcheonlaw13.PrimOrder': WHATEVER THE INPUT: true; the input reads as it did. -/
def primOrderSpec : ChangeSpec := { name := "primOrder", fn := fun _ => fun
  | [d1, d2] => { results := [.lit (.bool true)], args := [d1, d2] }
  | _ => none }
def primOrderRow : OpenClaim := { program := "yteejcokpkginbab", sum := "5b2267e2d1eaaccad4d0a81f52bddce07e83c2f922cb4338a837356aca242fbf", func := "escutcheon/escutcheonlaw13.PrimOrder", spec := "primOrder", apart := false }
def PrimOrderSaid : Prop := primOrderRow.holds Try.pinned (OpenSpec.ofChange primOrderSpec)

/-- ITS FALSE NEIGHBOUR: 'it returns false'. Refute it at one input. -/
def primOrderWrong : ChangeSpec := { name := "primOrder", fn := fun _ => fun
  | [d1, d2] => { results := [.lit (.bool false)], args := [d1, d2] }
  | _ => none }
def PrimOrderWrongFalsely : Prop := primOrderRow.holds Try.pinned (OpenSpec.ofChange primOrderWrong)

/- THE SECOND FORM. 'bulk': how many values and letters a reading holds, each counted each time it is reached (what is shared counts as often as it is met; a slice's spare places count too). A statement '..UptoSaid' is the law's where the arguments, and the package variables that the reading takes, are together of bulk at most 1048576: NARROWER than '..Said'. Prove '..Said' where nothing that the law and all that it calls make is longer than what came in: it says more and counts as full. Else prove '..UptoSaid'. A law counts once. -/
mutual
def uptoBulk {H : Type} : DataW H → Nat
  | .lit (.string bytes) => bytes.length + 1
  | .lit _ => 1
  | .nil => 1
  | .ptr d => uptoBulk d + 1
  | .slice elems spare => uptoBulkAll elems + uptoBulkAll spare + 1
  | .agg parts => uptoBulkAll parts + 1
  | .iface _ d => uptoBulk d + 1
  | .map entries => uptoBulkEntries entries + 1
  | .held _ => 1
def uptoBulkAll {H : Type} : List (DataW H) → Nat
  | [] => 0
  | d :: r => uptoBulk d + uptoBulkAll r
def uptoBulkEntries {H : Type} : List (Lit × DataW H) → Nat
  | [] => 0
  | x :: r => uptoBulkEntry x + uptoBulkEntries r
def uptoBulkEntry {H : Type} : Lit × DataW H → Nat
  | (.string bytes, d) => bytes.length + uptoBulk d + 1
  | (_, d) => uptoBulk d + 1
 end
def uptoSmall : (H : Type) → List (DataW H) → Bool := fun _ ds => decide (uptoBulkAll ds ≤ 1048576)
def OpenSpec.upto (s : _root_.Go.ChangeSpec) : _root_.Go.OpenSpec := { _root_.Go.OpenSpec.ofChange s with cond := some uptoSmall }

/-- 'escutcheonlaw13.PrimBits', WHERE WHAT IT READS IS OF BULK AT MOST 1048576: true; the input reads as it did. -/
def primBitsUptoRow : OpenClaim := { program := "yteejcokpkginbab", sum := "5b2267e2d1eaaccad4d0a81f52bddce07e83c2f922cb4338a837356aca242fbf", func := "escutcheon/escutcheonlaw13.PrimBits", spec := "primBits", apart := false, narrowed := true }
def PrimBitsUptoSaid : Prop := primBitsUptoRow.holds Try.pinned (OpenSpec.upto primBitsSpec)

/-- 'escutcheonlaw13.PrimTruth', WHERE WHAT IT READS IS OF BULK AT MOST 1048576: true; the input reads as it did. -/
def primTruthUptoRow : OpenClaim := { program := "yteejcokpkginbab", sum := "5b2267e2d1eaaccad4d0a81f52bddce07e83c2f922cb4338a837356aca242fbf", func := "escutcheon/escutcheonlaw13.PrimTruth", spec := "primTruth", apart := false, narrowed := true }
def PrimTruthUptoSaid : Prop := primTruthUptoRow.holds Try.pinned (OpenSpec.upto primTruthSpec)

/-- 'escutcheonlaw13.PrimText', WHERE WHAT IT READS IS OF BULK AT MOST 1048576: true; the input reads as it did. -/
def primTextUptoRow : OpenClaim := { program := "yteejcokpkginbab", sum := "5b2267e2d1eaaccad4d0a81f52bddce07e83c2f922cb4338a837356aca242fbf", func := "escutcheon/escutcheonlaw13.PrimText", spec := "primText", apart := false, narrowed := true }
def PrimTextUptoSaid : Prop := primTextUptoRow.holds Try.pinned (OpenSpec.upto primTextSpec)

/-- 'escutcheonlaw13.PrimTime', WHERE WHAT IT READS IS OF BULK AT MOST 1048576: true; the input reads as it did. -/
def primTimeUptoRow : OpenClaim := { program := "yteejcokpkginbab", sum := "5b2267e2d1eaaccad4d0a81f52bddce07e83c2f922cb4338a837356aca242fbf", func := "escutcheon/escutcheonlaw13.PrimTime", spec := "primTime", apart := false, narrowed := true }
def PrimTimeUptoSaid : Prop := primTimeUptoRow.holds Try.pinned (OpenSpec.upto primTimeSpec)

/-- 'escutcheonlaw13.PrimTimeOf', WHERE WHAT IT READS IS OF BULK AT MOST 1048576: true; the input reads as it did. -/
def primTimeOfUptoRow : OpenClaim := { program := "yteejcokpkginbab", sum := "5b2267e2d1eaaccad4d0a81f52bddce07e83c2f922cb4338a837356aca242fbf", func := "escutcheon/escutcheonlaw13.PrimTimeOf", spec := "primTimeOf", apart := false, narrowed := true }
def PrimTimeOfUptoSaid : Prop := primTimeOfUptoRow.holds Try.pinned (OpenSpec.upto primTimeOfSpec)

/-- 'escutcheonlaw13.PrimOrder', WHERE WHAT IT READS IS OF BULK AT MOST 1048576: true; the input reads as it did. -/
def primOrderUptoRow : OpenClaim := { program := "yteejcokpkginbab", sum := "5b2267e2d1eaaccad4d0a81f52bddce07e83c2f922cb4338a837356aca242fbf", func := "escutcheon/escutcheonlaw13.PrimOrder", spec := "primOrder", apart := false, narrowed := true }
def PrimOrderUptoSaid : Prop := primOrderUptoRow.holds Try.pinned (OpenSpec.upto primOrderSpec)

end Rows
end Go.Proofs.Yteejcokpkginbab
