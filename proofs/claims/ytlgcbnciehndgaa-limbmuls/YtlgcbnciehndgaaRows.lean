/-
  No cell of these rows narrows 'for every input' (looked for: loops, veiled, ifaces, maps, wideKeys, modest, calm, conditions, laid).
  DERIVED. THE GIVEN ROWS OF THIS SEAT. 6 by the template 'for every input the law returns true; each argument reads behind the call as it read before'; 0 by the template 'total and deterministic' (their statements: YtlgcbnciehndgaaTotals.lean).
  GIVEN WITH THE SEED: the statements are not yours to turn. If you find one false, say at which input.
  Laid BY PROGRAM, IN A SANDBOX (cutbox-rows.mjs): the forced cells as the released guide's own fill.sh prints them over the translation 0832d487ebc06e76… (all of the seat's roots in one cut). By AI agents, Wed Nov 11 2026. No macro, syntax, notation, axiom, sorry.
-/
import Derived.Test.YtlgcbnciehndgaaChecked
import GoSem.Claim
import GoSem.ClaimJoined
import GoSem.ClaimMapViews
import Derived.JoinedTies
import Derived.KernelRfl
namespace Go.Proofs.Ytlgcbnciehndgaa
/- THE CELL 'sum', in the pinned program and in every row, IS THE sha256 OF THE DUMP (.gsa) THAT YtlgcbnciehndgaaProg.lean LOADS. Nothing in Lean hashes anything: it is a label: what it is worth is what the hold of that sum in a sandbox is worth. -/
noncomputable def Try.pinned : Pinned := { name := "ytlgcbnciehndgaa", sum := "0832d487ebc06e768a307adf7e5d70b46732536b5b8068b573b1d8ecf4b83ffb", checked := Try.checked }
namespace Rows
def none {H : Type} : Left H := { results := [], args := [] }

/-- 'escutcheonlaw01.LimbAdds': WHATEVER THE INPUT: true; the input reads as it did. -/
def limbAddsSpec : ChangeSpec := { name := "limbAdds", fn := fun _ => fun
  | [d1, d2] => { results := [.lit (.bool true)], args := [d1, d2] }
  | _ => none }
def limbAddsRow : OpenClaim := { program := "ytlgcbnciehndgaa", sum := "0832d487ebc06e768a307adf7e5d70b46732536b5b8068b573b1d8ecf4b83ffb", func := "escutcheon/escutcheonlaw01.LimbAdds", spec := "limbAdds", inPlace := ["math/bits.Add64"], apart := false }
def LimbAddsSaid : Prop := limbAddsRow.holds Try.pinned (OpenSpec.ofChange limbAddsSpec)

/-- ITS FALSE NEIGHBOUR: 'it returns false'. Refute it at one input. -/
def limbAddsWrong : ChangeSpec := { name := "limbAdds", fn := fun _ => fun
  | [d1, d2] => { results := [.lit (.bool false)], args := [d1, d2] }
  | _ => none }
def LimbAddsWrongFalsely : Prop := limbAddsRow.holds Try.pinned (OpenSpec.ofChange limbAddsWrong)

/-- 'escutcheonlaw01.LimbSubs': WHATEVER THE INPUT: true; the input reads as it did. -/
def limbSubsSpec : ChangeSpec := { name := "limbSubs", fn := fun _ => fun
  | [d1, d2] => { results := [.lit (.bool true)], args := [d1, d2] }
  | _ => none }
def limbSubsRow : OpenClaim := { program := "ytlgcbnciehndgaa", sum := "0832d487ebc06e768a307adf7e5d70b46732536b5b8068b573b1d8ecf4b83ffb", func := "escutcheon/escutcheonlaw01.LimbSubs", spec := "limbSubs", inPlace := ["math/bits.Sub64"], apart := false }
def LimbSubsSaid : Prop := limbSubsRow.holds Try.pinned (OpenSpec.ofChange limbSubsSpec)

/-- ITS FALSE NEIGHBOUR: 'it returns false'. Refute it at one input. -/
def limbSubsWrong : ChangeSpec := { name := "limbSubs", fn := fun _ => fun
  | [d1, d2] => { results := [.lit (.bool false)], args := [d1, d2] }
  | _ => none }
def LimbSubsWrongFalsely : Prop := limbSubsRow.holds Try.pinned (OpenSpec.ofChange limbSubsWrong)

/-- 'escutcheonlaw01.LimbBack': WHATEVER THE INPUT: true; the input reads as it did. -/
def limbBackSpec : ChangeSpec := { name := "limbBack", fn := fun _ => fun
  | [d1, d2] => { results := [.lit (.bool true)], args := [d1, d2] }
  | _ => none }
def limbBackRow : OpenClaim := { program := "ytlgcbnciehndgaa", sum := "0832d487ebc06e768a307adf7e5d70b46732536b5b8068b573b1d8ecf4b83ffb", func := "escutcheon/escutcheonlaw01.LimbBack", spec := "limbBack", inPlace := ["math/bits.Add64", "math/bits.Sub64"], apart := false }
def LimbBackSaid : Prop := limbBackRow.holds Try.pinned (OpenSpec.ofChange limbBackSpec)

/-- ITS FALSE NEIGHBOUR: 'it returns false'. Refute it at one input. -/
def limbBackWrong : ChangeSpec := { name := "limbBack", fn := fun _ => fun
  | [d1, d2] => { results := [.lit (.bool false)], args := [d1, d2] }
  | _ => none }
def LimbBackWrongFalsely : Prop := limbBackRow.holds Try.pinned (OpenSpec.ofChange limbBackWrong)

/-- 'escutcheonlaw01.LimbMuls': WHATEVER THE INPUT: true; the input reads as it did. -/
def limbMulsSpec : ChangeSpec := { name := "limbMuls", fn := fun _ => fun
  | [d1, d2] => { results := [.lit (.bool true)], args := [d1, d2] }
  | _ => none }
def limbMulsRow : OpenClaim := { program := "ytlgcbnciehndgaa", sum := "0832d487ebc06e768a307adf7e5d70b46732536b5b8068b573b1d8ecf4b83ffb", func := "escutcheon/escutcheonlaw01.LimbMuls", spec := "limbMuls", inPlace := ["math/bits.Add64"], apart := false }
def LimbMulsSaid : Prop := limbMulsRow.holds Try.pinned (OpenSpec.ofChange limbMulsSpec)

/-- ITS FALSE NEIGHBOUR: 'it returns false'. Refute it at one input. -/
def limbMulsWrong : ChangeSpec := { name := "limbMuls", fn := fun _ => fun
  | [d1, d2] => { results := [.lit (.bool false)], args := [d1, d2] }
  | _ => none }
def LimbMulsWrongFalsely : Prop := limbMulsRow.holds Try.pinned (OpenSpec.ofChange limbMulsWrong)

/-- 'escutcheonlaw01.LimbLess': WHATEVER THE INPUT: true; the input reads as it did. -/
def limbLessSpec : ChangeSpec := { name := "limbLess", fn := fun _ => fun
  | [d1, d2] => { results := [.lit (.bool true)], args := [d1, d2] }
  | _ => none }
def limbLessRow : OpenClaim := { program := "ytlgcbnciehndgaa", sum := "0832d487ebc06e768a307adf7e5d70b46732536b5b8068b573b1d8ecf4b83ffb", func := "escutcheon/escutcheonlaw01.LimbLess", spec := "limbLess", inPlace := ["math/bits.Sub64"], apart := false }
def LimbLessSaid : Prop := limbLessRow.holds Try.pinned (OpenSpec.ofChange limbLessSpec)

/-- ITS FALSE NEIGHBOUR: 'it returns false'. Refute it at one input. -/
def limbLessWrong : ChangeSpec := { name := "limbLess", fn := fun _ => fun
  | [d1, d2] => { results := [.lit (.bool false)], args := [d1, d2] }
  | _ => none }
def LimbLessWrongFalsely : Prop := limbLessRow.holds Try.pinned (OpenSpec.ofChange limbLessWrong)

/-- 'escutcheonlaw01.LimbSame': WHATEVER THE INPUT: true; the input reads as it did. -/
def limbSameSpec : ChangeSpec := { name := "limbSame", fn := fun _ => fun
  | [d1, d2] => { results := [.lit (.bool true)], args := [d1, d2] }
  | _ => none }
def limbSameRow : OpenClaim := { program := "ytlgcbnciehndgaa", sum := "0832d487ebc06e768a307adf7e5d70b46732536b5b8068b573b1d8ecf4b83ffb", func := "escutcheon/escutcheonlaw01.LimbSame", spec := "limbSame", apart := false }
def LimbSameSaid : Prop := limbSameRow.holds Try.pinned (OpenSpec.ofChange limbSameSpec)

/-- ITS FALSE NEIGHBOUR: 'it returns false'. Refute it at one input. -/
def limbSameWrong : ChangeSpec := { name := "limbSame", fn := fun _ => fun
  | [d1, d2] => { results := [.lit (.bool false)], args := [d1, d2] }
  | _ => none }
def LimbSameWrongFalsely : Prop := limbSameRow.holds Try.pinned (OpenSpec.ofChange limbSameWrong)

/- THE SECOND FORM. 'bulk': how many values and letters a reading holds, each counted each time it is reached (what is shared counts as often as it is met; a slice's spare places count too). A statement '..UptoSaid' is the law's where the arguments, and the package variables that the reading takes, are together of bulk at most 1048576: NARROWER than '..Said'. Prove '..Said' where nothing that the law and all that it calls make is longer than what came in: it says more and counts as full. Else prove '..UptoSaid'. A law counts once. -/
mutual
def uptoBulk {H : Type} : DataW H → Nat
  | .lit (.string bytes) => bytes.length + 1
  | .lit _ => 1
  | .nil => 1
  | .ptr d => uptoBulk d + 1
  | .slice elems spare => uptoBulkAll elems + uptoBulkAll spare + 1
  | .agg parts => uptoBulkAll parts + 1
  | .iface _ d => uptoBulk d + 1
  | .map entries => uptoBulkEntries entries + 1
  | .held _ => 1
def uptoBulkAll {H : Type} : List (DataW H) → Nat
  | [] => 0
  | d :: r => uptoBulk d + uptoBulkAll r
def uptoBulkEntries {H : Type} : List (Lit × DataW H) → Nat
  | [] => 0
  | x :: r => uptoBulkEntry x + uptoBulkEntries r
def uptoBulkEntry {H : Type} : Lit × DataW H → Nat
  | (.string bytes, d) => bytes.length + uptoBulk d + 1
  | (_, d) => uptoBulk d + 1
 end
def uptoSmall : (H : Type) → List (DataW H) → Bool := fun _ ds => decide (uptoBulkAll ds ≤ 1048576)
def OpenSpec.upto (s : _root_.Go.ChangeSpec) : _root_.Go.OpenSpec := { _root_.Go.OpenSpec.ofChange s with cond := some uptoSmall }

/-- 'escutcheonlaw01.LimbAdds', WHERE WHAT IT READS IS OF BULK AT MOST 1048576: true; the input reads as it did. -/
def limbAddsUptoRow : OpenClaim := { program := "ytlgcbnciehndgaa", sum := "0832d487ebc06e768a307adf7e5d70b46732536b5b8068b573b1d8ecf4b83ffb", func := "escutcheon/escutcheonlaw01.LimbAdds", spec := "limbAdds", inPlace := ["math/bits.Add64"], apart := false, narrowed := true }
def LimbAddsUptoSaid : Prop := limbAddsUptoRow.holds Try.pinned (OpenSpec.upto limbAddsSpec)

/-- 'escutcheonlaw01.LimbSubs', WHERE WHAT IT READS IS OF BULK AT MOST 1048576: true; the input reads as it did. -/
def limbSubsUptoRow : OpenClaim := { program := "ytlgcbnciehndgaa", sum := "0832d487ebc06e768a307adf7e5d70b46732536b5b8068b573b1d8ecf4b83ffb", func := "escutcheon/escutcheonlaw01.LimbSubs", spec := "limbSubs", inPlace := ["math/bits.Sub64"], apart := false, narrowed := true }
def LimbSubsUptoSaid : Prop := limbSubsUptoRow.holds Try.pinned (OpenSpec.upto limbSubsSpec)

/-- 'escutcheonlaw01.LimbBack', WHERE WHAT IT READS IS OF BULK AT MOST 1048576: true; the input reads as it did. -/
def limbBackUptoRow : OpenClaim := { program := "ytlgcbnciehndgaa", sum := "0832d487ebc06e768a307adf7e5d70b46732536b5b8068b573b1d8ecf4b83ffb", func := "escutcheon/escutcheonlaw01.LimbBack", spec := "limbBack", inPlace := ["math/bits.Add64", "math/bits.Sub64"], apart := false, narrowed := true }
def LimbBackUptoSaid : Prop := limbBackUptoRow.holds Try.pinned (OpenSpec.upto limbBackSpec)

/-- 'escutcheonlaw01.LimbMuls', WHERE WHAT IT READS IS OF BULK AT MOST 1048576: true; the input reads as it did. -/
def limbMulsUptoRow : OpenClaim := { program := "ytlgcbnciehndgaa", sum := "0832d487ebc06e768a307adf7e5d70b46732536b5b8068b573b1d8ecf4b83ffb", func := "escutcheon/escutcheonlaw01.LimbMuls", spec := "limbMuls", inPlace := ["math/bits.Add64"], apart := false, narrowed := true }
def LimbMulsUptoSaid : Prop := limbMulsUptoRow.holds Try.pinned (OpenSpec.upto limbMulsSpec)

/-- 'escutcheonlaw01.LimbLess', WHERE WHAT IT READS IS OF BULK AT MOST 1048576: true; the input reads as it did. -/
def limbLessUptoRow : OpenClaim := { program := "ytlgcbnciehndgaa", sum := "0832d487ebc06e768a307adf7e5d70b46732536b5b8068b573b1d8ecf4b83ffb", func := "escutcheon/escutcheonlaw01.LimbLess", spec := "limbLess", inPlace := ["math/bits.Sub64"], apart := false, narrowed := true }
def LimbLessUptoSaid : Prop := limbLessUptoRow.holds Try.pinned (OpenSpec.upto limbLessSpec)

/-- 'escutcheonlaw01.LimbSame', WHERE WHAT IT READS IS OF BULK AT MOST 1048576: true; the input reads as it did. -/
def limbSameUptoRow : OpenClaim := { program := "ytlgcbnciehndgaa", sum := "0832d487ebc06e768a307adf7e5d70b46732536b5b8068b573b1d8ecf4b83ffb", func := "escutcheon/escutcheonlaw01.LimbSame", spec := "limbSame", apart := false, narrowed := true }
def LimbSameUptoSaid : Prop := limbSameUptoRow.holds Try.pinned (OpenSpec.upto limbSameSpec)

end Rows
end Go.Proofs.Ytlgcbnciehndgaa
