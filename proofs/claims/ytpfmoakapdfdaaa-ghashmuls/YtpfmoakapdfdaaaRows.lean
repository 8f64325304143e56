/-
  No cell of these rows narrows 'for every input' (looked for: loops, veiled, ifaces, maps, wideKeys, modest, calm, conditions, laid).
  DERIVED. THE GIVEN ROWS OF THIS SEAT. 5 by the template 'for every input the law returns true; each argument reads behind the call as it read before'; 0 by the template 'total and deterministic' (their statements: YtpfmoakapdfdaaaTotals.lean).
  GIVEN WITH THE SEED: the statements are not yours to turn. If you find one false, say at which input.
  Laid BY PROGRAM, IN A SANDBOX (cutbox-rows.mjs): the forced cells as the released guide's own fill.sh prints them over the translation 593e08020add0537… (all of the seat's roots in one cut). By AI agents, Wed Nov 11 2026. No macro, syntax, notation, axiom, sorry.
-/
import Derived.Test.YtpfmoakapdfdaaaChecked
import GoSem.Claim
import GoSem.ClaimJoined
import GoSem.ClaimMapViews
import Derived.JoinedTies
import Derived.KernelRfl
namespace Go.Proofs.Ytpfmoakapdfdaaa
/- THE CELL 'sum', in the pinned program and in every row, IS THE sha256 OF THE DUMP (.gsa) THAT YtpfmoakapdfdaaaProg.lean LOADS. Nothing in Lean hashes anything: it is a label: what it is worth is what the hold of that sum in a sandbox is worth. -/
noncomputable def Try.pinned : Pinned := { name := "ytpfmoakapdfdaaa", sum := "593e08020add053784365b0005333044340ab93d4312547a23ce4d1f3a4cebfd", checked := Try.checked }
namespace Rows
def none {H : Type} : Left H := { results := [], args := [] }

/-- 'escutcheonlaw10.GhashMuls': WHATEVER THE INPUT: true; the input reads as it did. -/
def ghashMulsSpec : ChangeSpec := { name := "ghashMuls", fn := fun _ => fun
  | [d1, d2] => { results := [.lit (.bool true)], args := [d1, d2] }
  | _ => none }
def ghashMulsRow : OpenClaim := { program := "ytpfmoakapdfdaaa", sum := "593e08020add053784365b0005333044340ab93d4312547a23ce4d1f3a4cebfd", func := "escutcheon/escutcheonlaw10.GhashMuls", spec := "ghashMuls", apart := false }
def GhashMulsSaid : Prop := ghashMulsRow.holds Try.pinned (OpenSpec.ofChange ghashMulsSpec)

/-- ITS FALSE NEIGHBOUR: 'it returns false'. Refute it at one input. -/
def ghashMulsWrong : ChangeSpec := { name := "ghashMuls", fn := fun _ => fun
  | [d1, d2] => { results := [.lit (.bool false)], args := [d1, d2] }
  | _ => none }
def GhashMulsWrongFalsely : Prop := ghashMulsRow.holds Try.pinned (OpenSpec.ofChange ghashMulsWrong)

/-- 'escutcheonlaw10.GhashLaws': WHATEVER THE INPUT: true; the input reads as it did. -/
def ghashLawsSpec : ChangeSpec := { name := "ghashLaws", fn := fun _ => fun
  | [d1, d2, d3] => { results := [.lit (.bool true)], args := [d1, d2, d3] }
  | _ => none }
def ghashLawsRow : OpenClaim := { program := "ytpfmoakapdfdaaa", sum := "593e08020add053784365b0005333044340ab93d4312547a23ce4d1f3a4cebfd", func := "escutcheon/escutcheonlaw10.GhashLaws", spec := "ghashLaws", apart := false }
def GhashLawsSaid : Prop := ghashLawsRow.holds Try.pinned (OpenSpec.ofChange ghashLawsSpec)

/-- ITS FALSE NEIGHBOUR: 'it returns false'. Refute it at one input. -/
def ghashLawsWrong : ChangeSpec := { name := "ghashLaws", fn := fun _ => fun
  | [d1, d2, d3] => { results := [.lit (.bool false)], args := [d1, d2, d3] }
  | _ => none }
def GhashLawsWrongFalsely : Prop := ghashLawsRow.holds Try.pinned (OpenSpec.ofChange ghashLawsWrong)

/-- 'escutcheonlaw10.GhashHashes': WHATEVER THE INPUT: true; the input reads as it did. -/
def ghashHashesSpec : ChangeSpec := { name := "ghashHashes", fn := fun _ => fun
  | [d1, d2] => { results := [.lit (.bool true)], args := [d1, d2] }
  | _ => none }
def ghashHashesRow : OpenClaim := { program := "ytpfmoakapdfdaaa", sum := "593e08020add053784365b0005333044340ab93d4312547a23ce4d1f3a4cebfd", func := "escutcheon/escutcheonlaw10.GhashHashes", spec := "ghashHashes", apart := false }
def GhashHashesSaid : Prop := ghashHashesRow.holds Try.pinned (OpenSpec.ofChange ghashHashesSpec)

/-- ITS FALSE NEIGHBOUR: 'it returns false'. Refute it at one input. -/
def ghashHashesWrong : ChangeSpec := { name := "ghashHashes", fn := fun _ => fun
  | [d1, d2] => { results := [.lit (.bool false)], args := [d1, d2] }
  | _ => none }
def GhashHashesWrongFalsely : Prop := ghashHashesRow.holds Try.pinned (OpenSpec.ofChange ghashHashesWrong)

/-- 'escutcheonlaw10.GhashWhole': WHATEVER THE INPUT: true; the input reads as it did. -/
def ghashWholeSpec : ChangeSpec := { name := "ghashWhole", fn := fun _ => fun
  | [d1, d2, d3] => { results := [.lit (.bool true)], args := [d1, d2, d3] }
  | _ => none }
def ghashWholeRow : OpenClaim := { program := "ytpfmoakapdfdaaa", sum := "593e08020add053784365b0005333044340ab93d4312547a23ce4d1f3a4cebfd", func := "escutcheon/escutcheonlaw10.GhashWhole", spec := "ghashWhole", apart := false }
def GhashWholeSaid : Prop := ghashWholeRow.holds Try.pinned (OpenSpec.ofChange ghashWholeSpec)

/-- ITS FALSE NEIGHBOUR: 'it returns false'. Refute it at one input. -/
def ghashWholeWrong : ChangeSpec := { name := "ghashWhole", fn := fun _ => fun
  | [d1, d2, d3] => { results := [.lit (.bool false)], args := [d1, d2, d3] }
  | _ => none }
def GhashWholeWrongFalsely : Prop := ghashWholeRow.holds Try.pinned (OpenSpec.ofChange ghashWholeWrong)

/-- 'escutcheonlaw10.GhashSums': WHATEVER THE INPUT: true; the input reads as it did. -/
def ghashSumsSpec : ChangeSpec := { name := "ghashSums", fn := fun _ => fun
  | [d1, d2, d3] => { results := [.lit (.bool true)], args := [d1, d2, d3] }
  | _ => none }
def ghashSumsRow : OpenClaim := { program := "ytpfmoakapdfdaaa", sum := "593e08020add053784365b0005333044340ab93d4312547a23ce4d1f3a4cebfd", func := "escutcheon/escutcheonlaw10.GhashSums", spec := "ghashSums", apart := false }
def GhashSumsSaid : Prop := ghashSumsRow.holds Try.pinned (OpenSpec.ofChange ghashSumsSpec)

/-- ITS FALSE NEIGHBOUR: 'it returns false'. Refute it at one input. -/
def ghashSumsWrong : ChangeSpec := { name := "ghashSums", fn := fun _ => fun
  | [d1, d2, d3] => { results := [.lit (.bool false)], args := [d1, d2, d3] }
  | _ => none }
def GhashSumsWrongFalsely : Prop := ghashSumsRow.holds Try.pinned (OpenSpec.ofChange ghashSumsWrong)

/- THE SECOND FORM. 'bulk': how many values and letters a reading holds, each counted each time it is reached (what is shared counts as often as it is met; a slice's spare places count too). A statement '..UptoSaid' is the law's where the arguments, and the package variables that the reading takes, are together of bulk at most 1048576: NARROWER than '..Said'. Prove '..Said' where nothing that the law and all that it calls make is longer than what came in: it says more and counts as full. Else prove '..UptoSaid'. A law counts once. -/
mutual
def uptoBulk {H : Type} : DataW H → Nat
  | .lit (.string bytes) => bytes.length + 1
  | .lit _ => 1
  | .nil => 1
  | .ptr d => uptoBulk d + 1
  | .slice elems spare => uptoBulkAll elems + uptoBulkAll spare + 1
  | .agg parts => uptoBulkAll parts + 1
  | .iface _ d => uptoBulk d + 1
  | .map entries => uptoBulkEntries entries + 1
  | .held _ => 1
def uptoBulkAll {H : Type} : List (DataW H) → Nat
  | [] => 0
  | d :: r => uptoBulk d + uptoBulkAll r
def uptoBulkEntries {H : Type} : List (Lit × DataW H) → Nat
  | [] => 0
  | x :: r => uptoBulkEntry x + uptoBulkEntries r
def uptoBulkEntry {H : Type} : Lit × DataW H → Nat
  | (.string bytes, d) => bytes.length + uptoBulk d + 1
  | (_, d) => uptoBulk d + 1
 end
def uptoSmall : (H : Type) → List (DataW H) → Bool := fun _ ds => decide (uptoBulkAll ds ≤ 1048576)
def OpenSpec.upto (s : _root_.Go.ChangeSpec) : _root_.Go.OpenSpec := { _root_.Go.OpenSpec.ofChange s with cond := some uptoSmall }

/-- 'escutcheonlaw10.GhashMuls', WHERE WHAT IT READS IS OF BULK AT MOST 1048576: true; the input reads as it did. -/
def ghashMulsUptoRow : OpenClaim := { program := "ytpfmoakapdfdaaa", sum := "593e08020add053784365b0005333044340ab93d4312547a23ce4d1f3a4cebfd", func := "escutcheon/escutcheonlaw10.GhashMuls", spec := "ghashMuls", apart := false, narrowed := true }
def GhashMulsUptoSaid : Prop := ghashMulsUptoRow.holds Try.pinned (OpenSpec.upto ghashMulsSpec)

/-- 'escutcheonlaw10.GhashLaws', WHERE WHAT IT READS IS OF BULK AT MOST 1048576: true; the input reads as it did. -/
def ghashLawsUptoRow : OpenClaim := { program := "ytpfmoakapdfdaaa", sum := "593e08020add053784365b0005333044340ab93d4312547a23ce4d1f3a4cebfd", func := "escutcheon/escutcheonlaw10.GhashLaws", spec := "ghashLaws", apart := false, narrowed := true }
def GhashLawsUptoSaid : Prop := ghashLawsUptoRow.holds Try.pinned (OpenSpec.upto ghashLawsSpec)

/-- 'escutcheonlaw10.GhashHashes', WHERE WHAT IT READS IS OF BULK AT MOST 1048576: true; the input reads as it did. -/
def ghashHashesUptoRow : OpenClaim := { program := "ytpfmoakapdfdaaa", sum := "593e08020add053784365b0005333044340ab93d4312547a23ce4d1f3a4cebfd", func := "escutcheon/escutcheonlaw10.GhashHashes", spec := "ghashHashes", apart := false, narrowed := true }
def GhashHashesUptoSaid : Prop := ghashHashesUptoRow.holds Try.pinned (OpenSpec.upto ghashHashesSpec)

/-- 'escutcheonlaw10.GhashWhole', WHERE WHAT IT READS IS OF BULK AT MOST 1048576: true; the input reads as it did. -/
def ghashWholeUptoRow : OpenClaim := { program := "ytpfmoakapdfdaaa", sum := "593e08020add053784365b0005333044340ab93d4312547a23ce4d1f3a4cebfd", func := "escutcheon/escutcheonlaw10.GhashWhole", spec := "ghashWhole", apart := false, narrowed := true }
def GhashWholeUptoSaid : Prop := ghashWholeUptoRow.holds Try.pinned (OpenSpec.upto ghashWholeSpec)

/-- 'escutcheonlaw10.GhashSums', WHERE WHAT IT READS IS OF BULK AT MOST 1048576: true; the input reads as it did. -/
def ghashSumsUptoRow : OpenClaim := { program := "ytpfmoakapdfdaaa", sum := "593e08020add053784365b0005333044340ab93d4312547a23ce4d1f3a4cebfd", func := "escutcheon/escutcheonlaw10.GhashSums", spec := "ghashSums", apart := false, narrowed := true }
def GhashSumsUptoSaid : Prop := ghashSumsUptoRow.holds Try.pinned (OpenSpec.upto ghashSumsSpec)

end Rows
end Go.Proofs.Ytpfmoakapdfdaaa
