/-
  No cell of these rows narrows 'for every input' (looked for: loops, veiled, ifaces, maps, wideKeys, modest, calm, conditions, laid).
  DERIVED. THE GIVEN ROWS OF THIS SEAT. 6 by the template 'for every input the law returns true; each argument reads behind the call as it read before'; 0 by the template 'total and deterministic' (their statements: YteejcokpkginbaaTotals.lean).
  GIVEN WITH THE SEED: the statements are not yours to turn. If you find one false, say at which input.
  Laid BY PROGRAM, IN A SANDBOX (cutbox-rows.mjs): the forced cells as the released guide's own fill.sh prints them over the translation a49027dc66c9abb7… (all of the seat's roots in one cut). By AI agents, Wed Nov 11 2026. No macro, syntax, notation, axiom, sorry.
-/
import Derived.Test.YteejcokpkginbaaChecked
import GoSem.Claim
import GoSem.ClaimJoined
import GoSem.ClaimMapViews
import Derived.JoinedTies
import Derived.KernelRfl
namespace Go.Proofs.Yteejcokpkginbaa
/- THE CELL 'sum', in the pinned program and in every row, IS THE sha256 OF THE DUMP (.gsa) THAT YteejcokpkginbaaProg.lean LOADS. Nothing in Lean hashes anything: it is a label: what it is worth is what the hold of that sum in a sandbox is worth. -/
noncomputable def Try.pinned : Pinned := { name := "yteejcokpkginbaa", sum := "a49027dc66c9abb76f17faf3f7c574734c56f9e4d6b90e02d765b34a20b28003", checked := Try.checked }
namespace Rows
def none {H : Type} : Left H := { results := [], args := [] }

/-- 'escutcheonlaw13.PrimNumbers': WHATEVER THE INPUT: true; the input reads as it did. -/
def primNumbersSpec : ChangeSpec := { name := "primNumbers", fn := fun _ => fun
  | [d] => { results := [.lit (.bool true)], args := [d] }
  | _ => none }
def primNumbersRow : OpenClaim := { program := "yteejcokpkginbaa", sum := "a49027dc66c9abb76f17faf3f7c574734c56f9e4d6b90e02d765b34a20b28003", func := "escutcheon/escutcheonlaw13.PrimNumbers", spec := "primNumbers", apart := false }
def PrimNumbersSaid : Prop := primNumbersRow.holds Try.pinned (OpenSpec.ofChange primNumbersSpec)

/-- ITS FALSE NEIGHBOUR: 'it returns false'. Refute it at one input. -/
def primNumbersWrong : ChangeSpec := { name := "primNumbers", fn := fun _ => fun
  | [d] => { results := [.lit (.bool false)], args := [d] }
  | _ => none }
def PrimNumbersWrongFalsely : Prop := primNumbersRow.holds Try.pinned (OpenSpec.ofChange primNumbersWrong)

/-- 'escutcheonlaw13.PrimNumberOf': WHATEVER THE INPUT: true; the input reads as it did. -/
def primNumberOfSpec : ChangeSpec := { name := "primNumberOf", fn := fun _ => fun
  | [d] => { results := [.lit (.bool true)], args := [d] }
  | _ => none }
def primNumberOfRow : OpenClaim := { program := "yteejcokpkginbaa", sum := "a49027dc66c9abb76f17faf3f7c574734c56f9e4d6b90e02d765b34a20b28003", func := "escutcheon/escutcheonlaw13.PrimNumberOf", spec := "primNumberOf", apart := false }
def PrimNumberOfSaid : Prop := primNumberOfRow.holds Try.pinned (OpenSpec.ofChange primNumberOfSpec)

/-- ITS FALSE NEIGHBOUR: 'it returns false'. Refute it at one input. -/
def primNumberOfWrong : ChangeSpec := { name := "primNumberOf", fn := fun _ => fun
  | [d] => { results := [.lit (.bool false)], args := [d] }
  | _ => none }
def PrimNumberOfWrongFalsely : Prop := primNumberOfRow.holds Try.pinned (OpenSpec.ofChange primNumberOfWrong)

/-- 'escutcheonlaw13.PrimSmall': WHATEVER THE INPUT: true; the input reads as it did. -/
def primSmallSpec : ChangeSpec := { name := "primSmall", fn := fun _ => fun
  | [d] => { results := [.lit (.bool true)], args := [d] }
  | _ => none }
def primSmallRow : OpenClaim := { program := "yteejcokpkginbaa", sum := "a49027dc66c9abb76f17faf3f7c574734c56f9e4d6b90e02d765b34a20b28003", func := "escutcheon/escutcheonlaw13.PrimSmall", spec := "primSmall", apart := false }
def PrimSmallSaid : Prop := primSmallRow.holds Try.pinned (OpenSpec.ofChange primSmallSpec)

/-- ITS FALSE NEIGHBOUR: 'it returns false'. Refute it at one input. -/
def primSmallWrong : ChangeSpec := { name := "primSmall", fn := fun _ => fun
  | [d] => { results := [.lit (.bool false)], args := [d] }
  | _ => none }
def PrimSmallWrongFalsely : Prop := primSmallRow.holds Try.pinned (OpenSpec.ofChange primSmallWrong)

/-- 'escutcheonlaw13.PrimSmallOf': WHATEVER THE INPUT: true; the input reads as it did. -/
def primSmallOfSpec : ChangeSpec := { name := "primSmallOf", fn := fun _ => fun
  | [d] => { results := [.lit (.bool true)], args := [d] }
  | _ => none }
def primSmallOfRow : OpenClaim := { program := "yteejcokpkginbaa", sum := "a49027dc66c9abb76f17faf3f7c574734c56f9e4d6b90e02d765b34a20b28003", func := "escutcheon/escutcheonlaw13.PrimSmallOf", spec := "primSmallOf", apart := false }
def PrimSmallOfSaid : Prop := primSmallOfRow.holds Try.pinned (OpenSpec.ofChange primSmallOfSpec)

/-- ITS FALSE NEIGHBOUR: 'it returns false'. Refute it at one input. -/
def primSmallOfWrong : ChangeSpec := { name := "primSmallOf", fn := fun _ => fun
  | [d] => { results := [.lit (.bool false)], args := [d] }
  | _ => none }
def PrimSmallOfWrongFalsely : Prop := primSmallOfRow.holds Try.pinned (OpenSpec.ofChange primSmallOfWrong)

/-- 'escutcheonlaw13.PrimOid': WHATEVER THE INPUT: true; the input reads as it did. -/
def primOidSpec : ChangeSpec := { name := "primOid", fn := fun _ => fun
  | [d] => { results := [.lit (.bool true)], args := [d] }
  | _ => none }
def primOidRow : OpenClaim := { program := "yteejcokpkginbaa", sum := "a49027dc66c9abb76f17faf3f7c574734c56f9e4d6b90e02d765b34a20b28003", func := "escutcheon/escutcheonlaw13.PrimOid", spec := "primOid", apart := false }
def PrimOidSaid : Prop := primOidRow.holds Try.pinned (OpenSpec.ofChange primOidSpec)

/-- ITS FALSE NEIGHBOUR: 'it returns false'. Refute it at one input. -/
def primOidWrong : ChangeSpec := { name := "primOid", fn := fun _ => fun
  | [d] => { results := [.lit (.bool false)], args := [d] }
  | _ => none }
def PrimOidWrongFalsely : Prop := primOidRow.holds Try.pinned (OpenSpec.ofChange primOidWrong)

/-- 'escutcheonlaw13.PrimOidOf': WHATEVER THE INPUT: true; the input reads as it did. -/
def primOidOfSpec : ChangeSpec := { name := "primOidOf", fn := fun _ => fun
  | [d] => { results := [.lit (.bool true)], args := [d] }
  | _ => none }
def primOidOfRow : OpenClaim := { program := "yteejcokpkginbaa", sum := "a49027dc66c9abb76f17faf3f7c574734c56f9e4d6b90e02d765b34a20b28003", func := "escutcheon/escutcheonlaw13.PrimOidOf", spec := "primOidOf", apart := false }
def PrimOidOfSaid : Prop := primOidOfRow.holds Try.pinned (OpenSpec.ofChange primOidOfSpec)

/-- ITS FALSE NEIGHBOUR: 'it returns false'. Refute it at one input. -/
def primOidOfWrong : ChangeSpec := { name := "primOidOf", fn := fun _ => fun
  | [d] => { results := [.lit (.bool false)], args := [d] }
  | _ => none }
def PrimOidOfWrongFalsely : Prop := primOidOfRow.holds Try.pinned (OpenSpec.ofChange primOidOfWrong)

/- THE SECOND FORM. 'bulk': how many values and letters a reading holds, each counted each time it is reached (what is shared counts as often as it is met; a slice's spare places count too). A statement '..UptoSaid' is the law's where the arguments, and the package variables that the reading takes, are together of bulk at most 1048576: NARROWER than '..Said'. Prove '..Said' where nothing that the law and all that it calls make is longer than what came in: it says more and counts as full. Else prove '..UptoSaid'. A law counts once. -/
mutual
def uptoBulk {H : Type} : DataW H → Nat
  | .lit (.string bytes) => bytes.length + 1
  | .lit _ => 1
  | .nil => 1
  | .ptr d => uptoBulk d + 1
  | .slice elems spare => uptoBulkAll elems + uptoBulkAll spare + 1
  | .agg parts => uptoBulkAll parts + 1
  | .iface _ d => uptoBulk d + 1
  | .map entries => uptoBulkEntries entries + 1
  | .held _ => 1
def uptoBulkAll {H : Type} : List (DataW H) → Nat
  | [] => 0
  | d :: r => uptoBulk d + uptoBulkAll r
def uptoBulkEntries {H : Type} : List (Lit × DataW H) → Nat
  | [] => 0
  | x :: r => uptoBulkEntry x + uptoBulkEntries r
def uptoBulkEntry {H : Type} : Lit × DataW H → Nat
  | (.string bytes, d) => bytes.length + uptoBulk d + 1
  | (_, d) => uptoBulk d + 1
 end
def uptoSmall : (H : Type) → List (DataW H) → Bool := fun _ ds => decide (uptoBulkAll ds ≤ 1048576)
def OpenSpec.upto (s : _root_.Go.ChangeSpec) : _root_.Go.OpenSpec := { _root_.Go.OpenSpec.ofChange s with cond := some uptoSmall }

/-- 'escutcheonlaw13.PrimNumbers', WHERE WHAT IT READS IS OF BULK AT MOST 1048576: true; the input reads as it did. -/
def primNumbersUptoRow : OpenClaim := { program := "yteejcokpkginbaa", sum := "a49027dc66c9abb76f17faf3f7c574734c56f9e4d6b90e02d765b34a20b28003", func := "escutcheon/escutcheonlaw13.PrimNumbers", spec := "primNumbers", apart := false, narrowed := true }
def PrimNumbersUptoSaid : Prop := primNumbersUptoRow.holds Try.pinned (OpenSpec.upto primNumbersSpec)

/-- 'escutcheonlaw13.PrimNumberOf', WHERE WHAT IT READS IS OF BULK AT MOST 1048576: true; the input reads as it did. -/
def primNumberOfUptoRow : OpenClaim := { program := "yteejcokpkginbaa", sum := "a49027dc66c9abb76f17faf3f7c574734c56f9e4d6b90e02d765b34a20b28003", func := "escutcheon/escutcheonlaw13.PrimNumberOf", spec := "primNumberOf", apart := false, narrowed := true }
def PrimNumberOfUptoSaid : Prop := primNumberOfUptoRow.holds Try.pinned (OpenSpec.upto primNumberOfSpec)

/-- 'escutcheonlaw13.PrimSmall', WHERE WHAT IT READS IS OF BULK AT MOST 1048576: true; the input reads as it did. -/
def primSmallUptoRow : OpenClaim := { program := "yteejcokpkginbaa", sum := "a49027dc66c9abb76f17faf3f7c574734c56f9e4d6b90e02d765b34a20b28003", func := "escutcheon/escutcheonlaw13.PrimSmall", spec := "primSmall", apart := false, narrowed := true }
def PrimSmallUptoSaid : Prop := primSmallUptoRow.holds Try.pinned (OpenSpec.upto primSmallSpec)

/-- 'escutcheonlaw13.PrimSmallOf', WHERE WHAT IT READS IS OF BULK AT MOST 1048576: true; the input reads as it did. -/
def primSmallOfUptoRow : OpenClaim := { program := "yteejcokpkginbaa", sum := "a49027dc66c9abb76f17faf3f7c574734c56f9e4d6b90e02d765b34a20b28003", func := "escutcheon/escutcheonlaw13.PrimSmallOf", spec := "primSmallOf", apart := false, narrowed := true }
def PrimSmallOfUptoSaid : Prop := primSmallOfUptoRow.holds Try.pinned (OpenSpec.upto primSmallOfSpec)

/-- 'escutcheonlaw13.PrimOid', WHERE WHAT IT READS IS OF BULK AT MOST 1048576: true; the input reads as it did. -/
def primOidUptoRow : OpenClaim := { program := "yteejcokpkginbaa", sum := "a49027dc66c9abb76f17faf3f7c574734c56f9e4d6b90e02d765b34a20b28003", func := "escutcheon/escutcheonlaw13.PrimOid", spec := "primOid", apart := false, narrowed := true }
def PrimOidUptoSaid : Prop := primOidUptoRow.holds Try.pinned (OpenSpec.upto primOidSpec)

/-- 'escutcheonlaw13.PrimOidOf', WHERE WHAT IT READS IS OF BULK AT MOST 1048576: true; the input reads as it did. -/
def primOidOfUptoRow : OpenClaim := { program := "yteejcokpkginbaa", sum := "a49027dc66c9abb76f17faf3f7c574734c56f9e4d6b90e02d765b34a20b28003", func := "escutcheon/escutcheonlaw13.PrimOidOf", spec := "primOidOf", apart := false, narrowed := true }
def PrimOidOfUptoSaid : Prop := primOidOfUptoRow.holds Try.pinned (OpenSpec.upto primOidOfSpec)

end Rows
end Go.Proofs.Yteejcokpkginbaa
