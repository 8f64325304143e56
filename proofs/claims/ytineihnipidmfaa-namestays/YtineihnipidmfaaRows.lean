/-
  NARROWER THAN 'FOR EVERY INPUT', by the rows' own cells (each row's printed sentence says how): NameOf: loops.
  DERIVED. THE GIVEN ROWS OF THIS SEAT. 5 by the template 'for every input the law returns true; each argument reads behind the call as it read before'; 0 by the template 'total and deterministic' (their statements: YtineihnipidmfaaTotals.lean).
  GIVEN WITH THE SEED: the statements are not yours to turn. If you find one false, say at which input.
  Laid BY PROGRAM, IN A SANDBOX (cutbox-rows.mjs): the forced cells as the released guide's own fill.sh prints them over the translation bbcc600a96d58fcb… (all of the seat's roots in one cut). By AI agents, Wed Nov 11 2026. No macro, syntax, notation, axiom, sorry.
-/
import Derived.Test.YtineihnipidmfaaChecked
import GoSem.Claim
import GoSem.ClaimJoined
import GoSem.ClaimMapViews
import Derived.JoinedTies
import Derived.KernelRfl
namespace Go.Proofs.Ytineihnipidmfaa
/- THE CELL 'sum', in the pinned program and in every row, IS THE sha256 OF THE DUMP (.gsa) THAT YtineihnipidmfaaProg.lean LOADS. Nothing in Lean hashes anything: it is a label: what it is worth is what the hold of that sum in a sandbox is worth. -/
noncomputable def Try.pinned : Pinned := { name := "ytineihnipidmfaa", sum := "bbcc600a96d58fcbb3d07b814187f08eb09b718cacdc3a1de83d315cd6d66fe0", checked := Try.checked }
namespace Rows
def none {H : Type} : Left H := { results := [], args := [] }

/-- 'escutcheonlaw16.NameElements': WHATEVER THE INPUT: true; the input reads as it did. -/
def nameElementsSpec : ChangeSpec := { name := "nameElements", fn := fun _ => fun
  | [d] => { results := [.lit (.bool true)], args := [d] }
  | _ => none }
def nameElementsRow : OpenClaim := { program := "ytineihnipidmfaa", sum := "bbcc600a96d58fcbb3d07b814187f08eb09b718cacdc3a1de83d315cd6d66fe0", func := "escutcheon/escutcheonlaw16.NameElements", spec := "nameElements", recurses := true, apart := false }
def NameElementsSaid : Prop := nameElementsRow.holds Try.pinned (OpenSpec.ofChange nameElementsSpec)

/-- ITS FALSE NEIGHBOUR: 'it returns false'. Refute it at one input. -/
def nameElementsWrong : ChangeSpec := { name := "nameElements", fn := fun _ => fun
  | [d] => { results := [.lit (.bool false)], args := [d] }
  | _ => none }
def NameElementsWrongFalsely : Prop := nameElementsRow.holds Try.pinned (OpenSpec.ofChange nameElementsWrong)

/-- 'escutcheonlaw16.NameOf': WHATEVER THE INPUT: true; the input reads as it did. -/
def nameOfSpec : ChangeSpec := { name := "nameOf", fn := fun _ => fun
  | [d] => { results := [.lit (.bool true)], args := [d] }
  | _ => none }
def nameOfRow : OpenClaim := { program := "ytineihnipidmfaa", sum := "bbcc600a96d58fcbb3d07b814187f08eb09b718cacdc3a1de83d315cd6d66fe0", func := "escutcheon/escutcheonlaw16.NameOf", spec := "nameOf", recurses := true, loops := true, apart := false }
def NameOfSaid : Prop := nameOfRow.holds Try.pinned (OpenSpec.ofChange nameOfSpec)

/-- ITS FALSE NEIGHBOUR: 'it returns false'. Refute it at one input. -/
def nameOfWrong : ChangeSpec := { name := "nameOf", fn := fun _ => fun
  | [d] => { results := [.lit (.bool false)], args := [d] }
  | _ => none }
def NameOfWrongFalsely : Prop := nameOfRow.holds Try.pinned (OpenSpec.ofChange nameOfWrong)

/-- 'escutcheonlaw16.NameWithin': WHATEVER THE INPUT: true; the input reads as it did. -/
def nameWithinSpec : ChangeSpec := { name := "nameWithin", fn := fun _ => fun
  | [d1, d2] => { results := [.lit (.bool true)], args := [d1, d2] }
  | _ => none }
def nameWithinRow : OpenClaim := { program := "ytineihnipidmfaa", sum := "bbcc600a96d58fcbb3d07b814187f08eb09b718cacdc3a1de83d315cd6d66fe0", func := "escutcheon/escutcheonlaw16.NameWithin", spec := "nameWithin", recurses := true, apart := false }
def NameWithinSaid : Prop := nameWithinRow.holds Try.pinned (OpenSpec.ofChange nameWithinSpec)

/-- ITS FALSE NEIGHBOUR: 'it returns false'. Refute it at one input. -/
def nameWithinWrong : ChangeSpec := { name := "nameWithin", fn := fun _ => fun
  | [d1, d2] => { results := [.lit (.bool false)], args := [d1, d2] }
  | _ => none }
def NameWithinWrongFalsely : Prop := nameWithinRow.holds Try.pinned (OpenSpec.ofChange nameWithinWrong)

/-- 'escutcheonlaw16.NameOn': WHATEVER THE INPUT: true; the input reads as it did. -/
def nameOnSpec : ChangeSpec := { name := "nameOn", fn := fun _ => fun
  | [d1, d2, d3] => { results := [.lit (.bool true)], args := [d1, d2, d3] }
  | _ => none }
def nameOnRow : OpenClaim := { program := "ytineihnipidmfaa", sum := "bbcc600a96d58fcbb3d07b814187f08eb09b718cacdc3a1de83d315cd6d66fe0", func := "escutcheon/escutcheonlaw16.NameOn", spec := "nameOn", recurses := true, apart := false }
def NameOnSaid : Prop := nameOnRow.holds Try.pinned (OpenSpec.ofChange nameOnSpec)

/-- ITS FALSE NEIGHBOUR: 'it returns false'. Refute it at one input. -/
def nameOnWrong : ChangeSpec := { name := "nameOn", fn := fun _ => fun
  | [d1, d2, d3] => { results := [.lit (.bool false)], args := [d1, d2, d3] }
  | _ => none }
def NameOnWrongFalsely : Prop := nameOnRow.holds Try.pinned (OpenSpec.ofChange nameOnWrong)

/-- 'escutcheonlaw16.NameStays': WHATEVER THE INPUT: true; the input reads as it did. -/
def nameStaysSpec : ChangeSpec := { name := "nameStays", fn := fun _ => fun
  | [d] => { results := [.lit (.bool true)], args := [d] }
  | _ => none }
def nameStaysRow : OpenClaim := { program := "ytineihnipidmfaa", sum := "bbcc600a96d58fcbb3d07b814187f08eb09b718cacdc3a1de83d315cd6d66fe0", func := "escutcheon/escutcheonlaw16.NameStays", spec := "nameStays", recurses := true, apart := false }
def NameStaysSaid : Prop := nameStaysRow.holds Try.pinned (OpenSpec.ofChange nameStaysSpec)

/-- ITS FALSE NEIGHBOUR: 'it returns false'. Refute it at one input. -/
def nameStaysWrong : ChangeSpec := { name := "nameStays", fn := fun _ => fun
  | [d] => { results := [.lit (.bool false)], args := [d] }
  | _ => none }
def NameStaysWrongFalsely : Prop := nameStaysRow.holds Try.pinned (OpenSpec.ofChange nameStaysWrong)

/- THE SECOND FORM. 'bulk': how many values and letters a reading holds, each counted each time it is reached (what is shared counts as often as it is met; a slice's spare places count too). A statement '..UptoSaid' is the law's where the arguments, and the package variables that the reading takes, are together of bulk at most 1048576: NARROWER than '..Said'. Prove '..Said' where nothing that the law and all that it calls make is longer than what came in: it says more and counts as full. Else prove '..UptoSaid'. A law counts once. -/
mutual
def uptoBulk {H : Type} : DataW H → Nat
  | .lit (.string bytes) => bytes.length + 1
  | .lit _ => 1
  | .nil => 1
  | .ptr d => uptoBulk d + 1
  | .slice elems spare => uptoBulkAll elems + uptoBulkAll spare + 1
  | .agg parts => uptoBulkAll parts + 1
  | .iface _ d => uptoBulk d + 1
  | .map entries => uptoBulkEntries entries + 1
  | .held _ => 1
def uptoBulkAll {H : Type} : List (DataW H) → Nat
  | [] => 0
  | d :: r => uptoBulk d + uptoBulkAll r
def uptoBulkEntries {H : Type} : List (Lit × DataW H) → Nat
  | [] => 0
  | x :: r => uptoBulkEntry x + uptoBulkEntries r
def uptoBulkEntry {H : Type} : Lit × DataW H → Nat
  | (.string bytes, d) => bytes.length + uptoBulk d + 1
  | (_, d) => uptoBulk d + 1
 end
def uptoSmall : (H : Type) → List (DataW H) → Bool := fun _ ds => decide (uptoBulkAll ds ≤ 1048576)
def OpenSpec.upto (s : _root_.Go.ChangeSpec) : _root_.Go.OpenSpec := { _root_.Go.OpenSpec.ofChange s with cond := some uptoSmall }

/-- 'escutcheonlaw16.NameElements', WHERE WHAT IT READS IS OF BULK AT MOST 1048576: true; the input reads as it did. -/
def nameElementsUptoRow : OpenClaim := { program := "ytineihnipidmfaa", sum := "bbcc600a96d58fcbb3d07b814187f08eb09b718cacdc3a1de83d315cd6d66fe0", func := "escutcheon/escutcheonlaw16.NameElements", spec := "nameElements", recurses := true, apart := false, narrowed := true }
def NameElementsUptoSaid : Prop := nameElementsUptoRow.holds Try.pinned (OpenSpec.upto nameElementsSpec)

/-- 'escutcheonlaw16.NameOf', WHERE WHAT IT READS IS OF BULK AT MOST 1048576: true; the input reads as it did. -/
def nameOfUptoRow : OpenClaim := { program := "ytineihnipidmfaa", sum := "bbcc600a96d58fcbb3d07b814187f08eb09b718cacdc3a1de83d315cd6d66fe0", func := "escutcheon/escutcheonlaw16.NameOf", spec := "nameOf", recurses := true, loops := true, apart := false, narrowed := true }
def NameOfUptoSaid : Prop := nameOfUptoRow.holds Try.pinned (OpenSpec.upto nameOfSpec)

/-- 'escutcheonlaw16.NameWithin', WHERE WHAT IT READS IS OF BULK AT MOST 1048576: true; the input reads as it did. -/
def nameWithinUptoRow : OpenClaim := { program := "ytineihnipidmfaa", sum := "bbcc600a96d58fcbb3d07b814187f08eb09b718cacdc3a1de83d315cd6d66fe0", func := "escutcheon/escutcheonlaw16.NameWithin", spec := "nameWithin", recurses := true, apart := false, narrowed := true }
def NameWithinUptoSaid : Prop := nameWithinUptoRow.holds Try.pinned (OpenSpec.upto nameWithinSpec)

/-- 'escutcheonlaw16.NameOn', WHERE WHAT IT READS IS OF BULK AT MOST 1048576: true; the input reads as it did. -/
def nameOnUptoRow : OpenClaim := { program := "ytineihnipidmfaa", sum := "bbcc600a96d58fcbb3d07b814187f08eb09b718cacdc3a1de83d315cd6d66fe0", func := "escutcheon/escutcheonlaw16.NameOn", spec := "nameOn", recurses := true, apart := false, narrowed := true }
def NameOnUptoSaid : Prop := nameOnUptoRow.holds Try.pinned (OpenSpec.upto nameOnSpec)

/-- 'escutcheonlaw16.NameStays', WHERE WHAT IT READS IS OF BULK AT MOST 1048576: true; the input reads as it did. -/
def nameStaysUptoRow : OpenClaim := { program := "ytineihnipidmfaa", sum := "bbcc600a96d58fcbb3d07b814187f08eb09b718cacdc3a1de83d315cd6d66fe0", func := "escutcheon/escutcheonlaw16.NameStays", spec := "nameStays", recurses := true, apart := false, narrowed := true }
def NameStaysUptoSaid : Prop := nameStaysUptoRow.holds Try.pinned (OpenSpec.upto nameStaysSpec)

end Rows
end Go.Proofs.Ytineihnipidmfaa
