/-
  No cell of these rows narrows 'for every input' (looked for: loops, veiled, ifaces, maps, wideKeys, modest, calm, conditions, laid).
  DERIVED. THE GIVEN ROWS OF THIS SEAT. 6 by the template 'for every input the law returns true; each argument reads behind the call as it read before'; 0 by the template 'total and deterministic' (their statements: YtpenapcgpplghaaTotals.lean).
  GIVEN WITH THE SEED: the statements are not yours to turn. If you find one false, say at which input.
  Laid BY PROGRAM, IN A SANDBOX (cutbox-rows.mjs): the forced cells as the released guide's own fill.sh prints them over the translation 2e82f2bea57a173a… (all of the seat's roots in one cut). By AI agents, Wed Nov 11 2026. No macro, syntax, notation, axiom, sorry.
-/
import Derived.Test.YtpenapcgpplghaaChecked
import GoSem.Claim
import GoSem.ClaimJoined
import GoSem.ClaimMapViews
import Derived.JoinedTies
import Derived.KernelRfl
namespace Go.Proofs.Ytpenapcgpplghaa
/- THE CELL 'sum', in the pinned program and in every row, IS THE sha256 OF THE DUMP (.gsa) THAT YtpenapcgpplghaaProg.lean LOADS. Nothing in Lean hashes anything: it is a label: what it is worth is what the hold of that sum in a sandbox is worth. -/
noncomputable def Try.pinned : Pinned := { name := "ytpenapcgpplghaa", sum := "2e82f2bea57a173a48df6952fd8894dd329af0a149013422f0c5484c559188ce", checked := Try.checked }
namespace Rows
def none {H : Type} : Left H := { results := [], args := [] }

/-- 'escutcheonlaw02.ModpNew': WHATEVER THE INPUT: true; the input reads as it did. -/
def modpNewSpec : ChangeSpec := { name := "modpNew", fn := fun _ => fun
  | [d] => { results := [.lit (.bool true)], args := [d] }
  | _ => none }
def modpNewRow : OpenClaim := { program := "ytpenapcgpplghaa", sum := "2e82f2bea57a173a48df6952fd8894dd329af0a149013422f0c5484c559188ce", func := "escutcheon/escutcheonlaw02.ModpNew", spec := "modpNew", inPlace := ["math/bits.Sub64", "math/bits.Add64"], apart := false }
def ModpNewSaid : Prop := modpNewRow.holds Try.pinned (OpenSpec.ofChange modpNewSpec)

/-- ITS FALSE NEIGHBOUR: 'it returns false'. Refute it at one input. -/
def modpNewWrong : ChangeSpec := { name := "modpNew", fn := fun _ => fun
  | [d] => { results := [.lit (.bool false)], args := [d] }
  | _ => none }
def ModpNewWrongFalsely : Prop := modpNewRow.holds Try.pinned (OpenSpec.ofChange modpNewWrong)

/-- 'escutcheonlaw02.ModpReduces': WHATEVER THE INPUT: true; the input reads as it did. -/
def modpReducesSpec : ChangeSpec := { name := "modpReduces", fn := fun _ => fun
  | [d1, d2] => { results := [.lit (.bool true)], args := [d1, d2] }
  | _ => none }
def modpReducesRow : OpenClaim := { program := "ytpenapcgpplghaa", sum := "2e82f2bea57a173a48df6952fd8894dd329af0a149013422f0c5484c559188ce", func := "escutcheon/escutcheonlaw02.ModpReduces", spec := "modpReduces", inPlace := ["math/bits.Sub64", "math/bits.Add64"], apart := false }
def ModpReducesSaid : Prop := modpReducesRow.holds Try.pinned (OpenSpec.ofChange modpReducesSpec)

/-- ITS FALSE NEIGHBOUR: 'it returns false'. Refute it at one input. -/
def modpReducesWrong : ChangeSpec := { name := "modpReduces", fn := fun _ => fun
  | [d1, d2] => { results := [.lit (.bool false)], args := [d1, d2] }
  | _ => none }
def ModpReducesWrongFalsely : Prop := modpReducesRow.holds Try.pinned (OpenSpec.ofChange modpReducesWrong)

/-- 'escutcheonlaw02.ModpAdds': WHATEVER THE INPUT: true; the input reads as it did. -/
def modpAddsSpec : ChangeSpec := { name := "modpAdds", fn := fun _ => fun
  | [d1, d2, d3] => { results := [.lit (.bool true)], args := [d1, d2, d3] }
  | _ => none }
def modpAddsRow : OpenClaim := { program := "ytpenapcgpplghaa", sum := "2e82f2bea57a173a48df6952fd8894dd329af0a149013422f0c5484c559188ce", func := "escutcheon/escutcheonlaw02.ModpAdds", spec := "modpAdds", inPlace := ["math/bits.Sub64", "math/bits.Add64"], apart := false }
def ModpAddsSaid : Prop := modpAddsRow.holds Try.pinned (OpenSpec.ofChange modpAddsSpec)

/-- ITS FALSE NEIGHBOUR: 'it returns false'. Refute it at one input. -/
def modpAddsWrong : ChangeSpec := { name := "modpAdds", fn := fun _ => fun
  | [d1, d2, d3] => { results := [.lit (.bool false)], args := [d1, d2, d3] }
  | _ => none }
def ModpAddsWrongFalsely : Prop := modpAddsRow.holds Try.pinned (OpenSpec.ofChange modpAddsWrong)

/-- 'escutcheonlaw02.ModpSubs': WHATEVER THE INPUT: true; the input reads as it did. -/
def modpSubsSpec : ChangeSpec := { name := "modpSubs", fn := fun _ => fun
  | [d1, d2, d3] => { results := [.lit (.bool true)], args := [d1, d2, d3] }
  | _ => none }
def modpSubsRow : OpenClaim := { program := "ytpenapcgpplghaa", sum := "2e82f2bea57a173a48df6952fd8894dd329af0a149013422f0c5484c559188ce", func := "escutcheon/escutcheonlaw02.ModpSubs", spec := "modpSubs", inPlace := ["math/bits.Sub64", "math/bits.Add64"], apart := false }
def ModpSubsSaid : Prop := modpSubsRow.holds Try.pinned (OpenSpec.ofChange modpSubsSpec)

/-- ITS FALSE NEIGHBOUR: 'it returns false'. Refute it at one input. -/
def modpSubsWrong : ChangeSpec := { name := "modpSubs", fn := fun _ => fun
  | [d1, d2, d3] => { results := [.lit (.bool false)], args := [d1, d2, d3] }
  | _ => none }
def ModpSubsWrongFalsely : Prop := modpSubsRow.holds Try.pinned (OpenSpec.ofChange modpSubsWrong)

/-- 'escutcheonlaw02.ModpMuls': WHATEVER THE INPUT: true; the input reads as it did. -/
def modpMulsSpec : ChangeSpec := { name := "modpMuls", fn := fun _ => fun
  | [d1, d2, d3] => { results := [.lit (.bool true)], args := [d1, d2, d3] }
  | _ => none }
def modpMulsRow : OpenClaim := { program := "ytpenapcgpplghaa", sum := "2e82f2bea57a173a48df6952fd8894dd329af0a149013422f0c5484c559188ce", func := "escutcheon/escutcheonlaw02.ModpMuls", spec := "modpMuls", inPlace := ["math/bits.Sub64", "math/bits.Add64"], apart := false }
def ModpMulsSaid : Prop := modpMulsRow.holds Try.pinned (OpenSpec.ofChange modpMulsSpec)

/-- ITS FALSE NEIGHBOUR: 'it returns false'. Refute it at one input. -/
def modpMulsWrong : ChangeSpec := { name := "modpMuls", fn := fun _ => fun
  | [d1, d2, d3] => { results := [.lit (.bool false)], args := [d1, d2, d3] }
  | _ => none }
def ModpMulsWrongFalsely : Prop := modpMulsRow.holds Try.pinned (OpenSpec.ofChange modpMulsWrong)

/-- 'escutcheonlaw02.ModpExps': WHATEVER THE INPUT: true; the input reads as it did. -/
def modpExpsSpec : ChangeSpec := { name := "modpExps", fn := fun _ => fun
  | [d1, d2, d3] => { results := [.lit (.bool true)], args := [d1, d2, d3] }
  | _ => none }
def modpExpsRow : OpenClaim := { program := "ytpenapcgpplghaa", sum := "2e82f2bea57a173a48df6952fd8894dd329af0a149013422f0c5484c559188ce", func := "escutcheon/escutcheonlaw02.ModpExps", spec := "modpExps", inPlace := ["math/bits.Sub64", "math/bits.Add64"], apart := false }
def ModpExpsSaid : Prop := modpExpsRow.holds Try.pinned (OpenSpec.ofChange modpExpsSpec)

/-- ITS FALSE NEIGHBOUR: 'it returns false'. Refute it at one input. -/
def modpExpsWrong : ChangeSpec := { name := "modpExps", fn := fun _ => fun
  | [d1, d2, d3] => { results := [.lit (.bool false)], args := [d1, d2, d3] }
  | _ => none }
def ModpExpsWrongFalsely : Prop := modpExpsRow.holds Try.pinned (OpenSpec.ofChange modpExpsWrong)

/- THE SECOND FORM. 'bulk': how many values and letters a reading holds, each counted each time it is reached (what is shared counts as often as it is met; a slice's spare places count too). A statement '..UptoSaid' is the law's where the arguments, and the package variables that the reading takes, are together of bulk at most 1048576: NARROWER than '..Said'. Prove '..Said' where nothing that the law and all that it calls make is longer than what came in: it says more and counts as full. Else prove '..UptoSaid'. A law counts once. -/
mutual
def uptoBulk {H : Type} : DataW H → Nat
  | .lit (.string bytes) => bytes.length + 1
  | .lit _ => 1
  | .nil => 1
  | .ptr d => uptoBulk d + 1
  | .slice elems spare => uptoBulkAll elems + uptoBulkAll spare + 1
  | .agg parts => uptoBulkAll parts + 1
  | .iface _ d => uptoBulk d + 1
  | .map entries => uptoBulkEntries entries + 1
  | .held _ => 1
def uptoBulkAll {H : Type} : List (DataW H) → Nat
  | [] => 0
  | d :: r => uptoBulk d + uptoBulkAll r
def uptoBulkEntries {H : Type} : List (Lit × DataW H) → Nat
  | [] => 0
  | x :: r => uptoBulkEntry x + uptoBulkEntries r
def uptoBulkEntry {H : Type} : Lit × DataW H → Nat
  | (.string bytes, d) => bytes.length + uptoBulk d + 1
  | (_, d) => uptoBulk d + 1
 end
def uptoSmall : (H : Type) → List (DataW H) → Bool := fun _ ds => decide (uptoBulkAll ds ≤ 1048576)
def OpenSpec.upto (s : _root_.Go.ChangeSpec) : _root_.Go.OpenSpec := { _root_.Go.OpenSpec.ofChange s with cond := some uptoSmall }

/-- 'escutcheonlaw02.ModpNew', WHERE WHAT IT READS IS OF BULK AT MOST 1048576: true; the input reads as it did. -/
def modpNewUptoRow : OpenClaim := { program := "ytpenapcgpplghaa", sum := "2e82f2bea57a173a48df6952fd8894dd329af0a149013422f0c5484c559188ce", func := "escutcheon/escutcheonlaw02.ModpNew", spec := "modpNew", inPlace := ["math/bits.Sub64", "math/bits.Add64"], apart := false, narrowed := true }
def ModpNewUptoSaid : Prop := modpNewUptoRow.holds Try.pinned (OpenSpec.upto modpNewSpec)

/-- 'escutcheonlaw02.ModpReduces', WHERE WHAT IT READS IS OF BULK AT MOST 1048576: true; the input reads as it did. -/
def modpReducesUptoRow : OpenClaim := { program := "ytpenapcgpplghaa", sum := "2e82f2bea57a173a48df6952fd8894dd329af0a149013422f0c5484c559188ce", func := "escutcheon/escutcheonlaw02.ModpReduces", spec := "modpReduces", inPlace := ["math/bits.Sub64", "math/bits.Add64"], apart := false, narrowed := true }
def ModpReducesUptoSaid : Prop := modpReducesUptoRow.holds Try.pinned (OpenSpec.upto modpReducesSpec)

/-- 'escutcheonlaw02.ModpAdds', WHERE WHAT IT READS IS OF BULK AT MOST 1048576: true; the input reads as it did. -/
def modpAddsUptoRow : OpenClaim := { program := "ytpenapcgpplghaa", sum := "2e82f2bea57a173a48df6952fd8894dd329af0a149013422f0c5484c559188ce", func := "escutcheon/escutcheonlaw02.ModpAdds", spec := "modpAdds", inPlace := ["math/bits.Sub64", "math/bits.Add64"], apart := false, narrowed := true }
def ModpAddsUptoSaid : Prop := modpAddsUptoRow.holds Try.pinned (OpenSpec.upto modpAddsSpec)

/-- 'escutcheonlaw02.ModpSubs', WHERE WHAT IT READS IS OF BULK AT MOST 1048576: true; the input reads as it did. -/
def modpSubsUptoRow : OpenClaim := { program := "ytpenapcgpplghaa", sum := "2e82f2bea57a173a48df6952fd8894dd329af0a149013422f0c5484c559188ce", func := "escutcheon/escutcheonlaw02.ModpSubs", spec := "modpSubs", inPlace := ["math/bits.Sub64", "math/bits.Add64"], apart := false, narrowed := true }
def ModpSubsUptoSaid : Prop := modpSubsUptoRow.holds Try.pinned (OpenSpec.upto modpSubsSpec)

/-- 'escutcheonlaw02.ModpMuls', WHERE WHAT IT READS IS OF BULK AT MOST 1048576: true; the input reads as it did. -/
def modpMulsUptoRow : OpenClaim := { program := "ytpenapcgpplghaa", sum := "2e82f2bea57a173a48df6952fd8894dd329af0a149013422f0c5484c559188ce", func := "escutcheon/escutcheonlaw02.ModpMuls", spec := "modpMuls", inPlace := ["math/bits.Sub64", "math/bits.Add64"], apart := false, narrowed := true }
def ModpMulsUptoSaid : Prop := modpMulsUptoRow.holds Try.pinned (OpenSpec.upto modpMulsSpec)

/-- 'escutcheonlaw02.ModpExps', WHERE WHAT IT READS IS OF BULK AT MOST 1048576: true; the input reads as it did. -/
def modpExpsUptoRow : OpenClaim := { program := "ytpenapcgpplghaa", sum := "2e82f2bea57a173a48df6952fd8894dd329af0a149013422f0c5484c559188ce", func := "escutcheon/escutcheonlaw02.ModpExps", spec := "modpExps", inPlace := ["math/bits.Sub64", "math/bits.Add64"], apart := false, narrowed := true }
def ModpExpsUptoSaid : Prop := modpExpsUptoRow.holds Try.pinned (OpenSpec.upto modpExpsSpec)

end Rows
end Go.Proofs.Ytpenapcgpplghaa
