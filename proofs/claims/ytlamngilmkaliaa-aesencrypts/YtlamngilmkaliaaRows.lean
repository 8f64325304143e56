/-
  No cell of these rows narrows 'for every input' (looked for: loops, veiled, ifaces, maps, wideKeys, modest, calm, conditions, laid).
  DERIVED. THE GIVEN ROWS OF THIS SEAT. 6 by the template 'for every input the law returns true; each argument reads behind the call as it read before'; 0 by the template 'total and deterministic' (their statements: YtlamngilmkaliaaTotals.lean).
  GIVEN WITH THE SEED: the statements are not yours to turn. If you find one false, say at which input.
  Laid BY PROGRAM, IN A SANDBOX (cutbox-rows.mjs): the forced cells as the released guide's own fill.sh prints them over the translation b553b8041e669c04… (all of the seat's roots in one cut). By AI agents, Wed Nov 11 2026. No macro, syntax, notation, axiom, sorry.
-/
import Derived.Test.YtlamngilmkaliaaChecked
import GoSem.Claim
import GoSem.ClaimJoined
import GoSem.ClaimMapViews
import Derived.JoinedTies
import Derived.KernelRfl
namespace Go.Proofs.Ytlamngilmkaliaa
/- THE CELL 'sum', in the pinned program and in every row, IS THE sha256 OF THE DUMP (.gsa) THAT YtlamngilmkaliaaProg.lean LOADS. Nothing in Lean hashes anything: it is a label: what it is worth is what the hold of that sum in a sandbox is worth. -/
noncomputable def Try.pinned : Pinned := { name := "ytlamngilmkaliaa", sum := "b553b8041e669c04af1c02dcf5e5e16f0ba87f46655048982ded3e5cfa8c14f6", checked := Try.checked }
namespace Rows
def none {H : Type} : Left H := { results := [], args := [] }

/-- 'escutcheonlaw09.AesProducts': WHATEVER THE INPUT: true; the input reads as it did. -/
def aesProductsSpec : ChangeSpec := { name := "aesProducts", fn := fun _ => fun
  | [d1, d2] => { results := [.lit (.bool true)], args := [d1, d2] }
  | _ => none }
def aesProductsRow : OpenClaim := { program := "ytlamngilmkaliaa", sum := "b553b8041e669c04af1c02dcf5e5e16f0ba87f46655048982ded3e5cfa8c14f6", func := "escutcheon/escutcheonlaw09.AesProducts", spec := "aesProducts", apart := false }
def AesProductsSaid : Prop := aesProductsRow.holds Try.pinned (OpenSpec.ofChange aesProductsSpec)

/-- ITS FALSE NEIGHBOUR: 'it returns false'. Refute it at one input. -/
def aesProductsWrong : ChangeSpec := { name := "aesProducts", fn := fun _ => fun
  | [d1, d2] => { results := [.lit (.bool false)], args := [d1, d2] }
  | _ => none }
def AesProductsWrongFalsely : Prop := aesProductsRow.holds Try.pinned (OpenSpec.ofChange aesProductsWrong)

/-- 'escutcheonlaw09.AesSubstitutes': WHATEVER THE INPUT: true; the input reads as it did. -/
def aesSubstitutesSpec : ChangeSpec := { name := "aesSubstitutes", fn := fun _ => fun
  | [d] => { results := [.lit (.bool true)], args := [d] }
  | _ => none }
def aesSubstitutesRow : OpenClaim := { program := "ytlamngilmkaliaa", sum := "b553b8041e669c04af1c02dcf5e5e16f0ba87f46655048982ded3e5cfa8c14f6", func := "escutcheon/escutcheonlaw09.AesSubstitutes", spec := "aesSubstitutes", apart := false }
def AesSubstitutesSaid : Prop := aesSubstitutesRow.holds Try.pinned (OpenSpec.ofChange aesSubstitutesSpec)

/-- ITS FALSE NEIGHBOUR: 'it returns false'. Refute it at one input. -/
def aesSubstitutesWrong : ChangeSpec := { name := "aesSubstitutes", fn := fun _ => fun
  | [d] => { results := [.lit (.bool false)], args := [d] }
  | _ => none }
def AesSubstitutesWrongFalsely : Prop := aesSubstitutesRow.holds Try.pinned (OpenSpec.ofChange aesSubstitutesWrong)

/-- 'escutcheonlaw09.AesTurns': WHATEVER THE INPUT: true; the input reads as it did. -/
def aesTurnsSpec : ChangeSpec := { name := "aesTurns", fn := fun _ => fun
  | [d] => { results := [.lit (.bool true)], args := [d] }
  | _ => none }
def aesTurnsRow : OpenClaim := { program := "ytlamngilmkaliaa", sum := "b553b8041e669c04af1c02dcf5e5e16f0ba87f46655048982ded3e5cfa8c14f6", func := "escutcheon/escutcheonlaw09.AesTurns", spec := "aesTurns", apart := false }
def AesTurnsSaid : Prop := aesTurnsRow.holds Try.pinned (OpenSpec.ofChange aesTurnsSpec)

/-- ITS FALSE NEIGHBOUR: 'it returns false'. Refute it at one input. -/
def aesTurnsWrong : ChangeSpec := { name := "aesTurns", fn := fun _ => fun
  | [d] => { results := [.lit (.bool false)], args := [d] }
  | _ => none }
def AesTurnsWrongFalsely : Prop := aesTurnsRow.holds Try.pinned (OpenSpec.ofChange aesTurnsWrong)

/-- 'escutcheonlaw09.AesMixes': WHATEVER THE INPUT: true; the input reads as it did. -/
def aesMixesSpec : ChangeSpec := { name := "aesMixes", fn := fun _ => fun
  | [d] => { results := [.lit (.bool true)], args := [d] }
  | _ => none }
def aesMixesRow : OpenClaim := { program := "ytlamngilmkaliaa", sum := "b553b8041e669c04af1c02dcf5e5e16f0ba87f46655048982ded3e5cfa8c14f6", func := "escutcheon/escutcheonlaw09.AesMixes", spec := "aesMixes", unfollowed := true, recurses := true, apart := false }
def AesMixesSaid : Prop := aesMixesRow.holds Try.pinned (OpenSpec.ofChange aesMixesSpec)

/-- ITS FALSE NEIGHBOUR: 'it returns false'. Refute it at one input. -/
def aesMixesWrong : ChangeSpec := { name := "aesMixes", fn := fun _ => fun
  | [d] => { results := [.lit (.bool false)], args := [d] }
  | _ => none }
def AesMixesWrongFalsely : Prop := aesMixesRow.holds Try.pinned (OpenSpec.ofChange aesMixesWrong)

/-- 'escutcheonlaw09.AesKeys': WHATEVER THE INPUT: true; the input reads as it did. -/
def aesKeysSpec : ChangeSpec := { name := "aesKeys", fn := fun _ => fun
  | [d] => { results := [.lit (.bool true)], args := [d] }
  | _ => none }
def aesKeysRow : OpenClaim := { program := "ytlamngilmkaliaa", sum := "b553b8041e669c04af1c02dcf5e5e16f0ba87f46655048982ded3e5cfa8c14f6", func := "escutcheon/escutcheonlaw09.AesKeys", spec := "aesKeys", apart := false }
def AesKeysSaid : Prop := aesKeysRow.holds Try.pinned (OpenSpec.ofChange aesKeysSpec)

/-- ITS FALSE NEIGHBOUR: 'it returns false'. Refute it at one input. -/
def aesKeysWrong : ChangeSpec := { name := "aesKeys", fn := fun _ => fun
  | [d] => { results := [.lit (.bool false)], args := [d] }
  | _ => none }
def AesKeysWrongFalsely : Prop := aesKeysRow.holds Try.pinned (OpenSpec.ofChange aesKeysWrong)

/-- 'escutcheonlaw09.AesEncrypts': WHATEVER THE INPUT: true; the input reads as it did. -/
def aesEncryptsSpec : ChangeSpec := { name := "aesEncrypts", fn := fun _ => fun
  | [d1, d2] => { results := [.lit (.bool true)], args := [d1, d2] }
  | _ => none }
def aesEncryptsRow : OpenClaim := { program := "ytlamngilmkaliaa", sum := "b553b8041e669c04af1c02dcf5e5e16f0ba87f46655048982ded3e5cfa8c14f6", func := "escutcheon/escutcheonlaw09.AesEncrypts", spec := "aesEncrypts", unfollowed := true, recurses := true, apart := false }
def AesEncryptsSaid : Prop := aesEncryptsRow.holds Try.pinned (OpenSpec.ofChange aesEncryptsSpec)

/-- ITS FALSE NEIGHBOUR: 'it returns false'. Refute it at one input. -/
def aesEncryptsWrong : ChangeSpec := { name := "aesEncrypts", fn := fun _ => fun
  | [d1, d2] => { results := [.lit (.bool false)], args := [d1, d2] }
  | _ => none }
def AesEncryptsWrongFalsely : Prop := aesEncryptsRow.holds Try.pinned (OpenSpec.ofChange aesEncryptsWrong)

/- THE SECOND FORM. 'bulk': how many values and letters a reading holds, each counted each time it is reached (what is shared counts as often as it is met; a slice's spare places count too). A statement '..UptoSaid' is the law's where the arguments, and the package variables that the reading takes, are together of bulk at most 1048576: NARROWER than '..Said'. Prove '..Said' where nothing that the law and all that it calls make is longer than what came in: it says more and counts as full. Else prove '..UptoSaid'. A law counts once. -/
mutual
def uptoBulk {H : Type} : DataW H → Nat
  | .lit (.string bytes) => bytes.length + 1
  | .lit _ => 1
  | .nil => 1
  | .ptr d => uptoBulk d + 1
  | .slice elems spare => uptoBulkAll elems + uptoBulkAll spare + 1
  | .agg parts => uptoBulkAll parts + 1
  | .iface _ d => uptoBulk d + 1
  | .map entries => uptoBulkEntries entries + 1
  | .held _ => 1
def uptoBulkAll {H : Type} : List (DataW H) → Nat
  | [] => 0
  | d :: r => uptoBulk d + uptoBulkAll r
def uptoBulkEntries {H : Type} : List (Lit × DataW H) → Nat
  | [] => 0
  | x :: r => uptoBulkEntry x + uptoBulkEntries r
def uptoBulkEntry {H : Type} : Lit × DataW H → Nat
  | (.string bytes, d) => bytes.length + uptoBulk d + 1
  | (_, d) => uptoBulk d + 1
 end
def uptoSmall : (H : Type) → List (DataW H) → Bool := fun _ ds => decide (uptoBulkAll ds ≤ 1048576)
def OpenSpec.upto (s : _root_.Go.ChangeSpec) : _root_.Go.OpenSpec := { _root_.Go.OpenSpec.ofChange s with cond := some uptoSmall }

/-- 'escutcheonlaw09.AesProducts', WHERE WHAT IT READS IS OF BULK AT MOST 1048576: true; the input reads as it did. -/
def aesProductsUptoRow : OpenClaim := { program := "ytlamngilmkaliaa", sum := "b553b8041e669c04af1c02dcf5e5e16f0ba87f46655048982ded3e5cfa8c14f6", func := "escutcheon/escutcheonlaw09.AesProducts", spec := "aesProducts", apart := false, narrowed := true }
def AesProductsUptoSaid : Prop := aesProductsUptoRow.holds Try.pinned (OpenSpec.upto aesProductsSpec)

/-- 'escutcheonlaw09.AesSubstitutes', WHERE WHAT IT READS IS OF BULK AT MOST 1048576: true; the input reads as it did. -/
def aesSubstitutesUptoRow : OpenClaim := { program := "ytlamngilmkaliaa", sum := "b553b8041e669c04af1c02dcf5e5e16f0ba87f46655048982ded3e5cfa8c14f6", func := "escutcheon/escutcheonlaw09.AesSubstitutes", spec := "aesSubstitutes", apart := false, narrowed := true }
def AesSubstitutesUptoSaid : Prop := aesSubstitutesUptoRow.holds Try.pinned (OpenSpec.upto aesSubstitutesSpec)

/-- 'escutcheonlaw09.AesTurns', WHERE WHAT IT READS IS OF BULK AT MOST 1048576: true; the input reads as it did. -/
def aesTurnsUptoRow : OpenClaim := { program := "ytlamngilmkaliaa", sum := "b553b8041e669c04af1c02dcf5e5e16f0ba87f46655048982ded3e5cfa8c14f6", func := "escutcheon/escutcheonlaw09.AesTurns", spec := "aesTurns", apart := false, narrowed := true }
def AesTurnsUptoSaid : Prop := aesTurnsUptoRow.holds Try.pinned (OpenSpec.upto aesTurnsSpec)

/-- 'escutcheonlaw09.AesMixes', WHERE WHAT IT READS IS OF BULK AT MOST 1048576: true; the input reads as it did. -/
def aesMixesUptoRow : OpenClaim := { program := "ytlamngilmkaliaa", sum := "b553b8041e669c04af1c02dcf5e5e16f0ba87f46655048982ded3e5cfa8c14f6", func := "escutcheon/escutcheonlaw09.AesMixes", spec := "aesMixes", unfollowed := true, recurses := true, apart := false, narrowed := true }
def AesMixesUptoSaid : Prop := aesMixesUptoRow.holds Try.pinned (OpenSpec.upto aesMixesSpec)

/-- 'escutcheonlaw09.AesKeys', WHERE WHAT IT READS IS OF BULK AT MOST 1048576: true; the input reads as it did. -/
def aesKeysUptoRow : OpenClaim := { program := "ytlamngilmkaliaa", sum := "b553b8041e669c04af1c02dcf5e5e16f0ba87f46655048982ded3e5cfa8c14f6", func := "escutcheon/escutcheonlaw09.AesKeys", spec := "aesKeys", apart := false, narrowed := true }
def AesKeysUptoSaid : Prop := aesKeysUptoRow.holds Try.pinned (OpenSpec.upto aesKeysSpec)

/-- 'escutcheonlaw09.AesEncrypts', WHERE WHAT IT READS IS OF BULK AT MOST 1048576: true; the input reads as it did. -/
def aesEncryptsUptoRow : OpenClaim := { program := "ytlamngilmkaliaa", sum := "b553b8041e669c04af1c02dcf5e5e16f0ba87f46655048982ded3e5cfa8c14f6", func := "escutcheon/escutcheonlaw09.AesEncrypts", spec := "aesEncrypts", unfollowed := true, recurses := true, apart := false, narrowed := true }
def AesEncryptsUptoSaid : Prop := aesEncryptsUptoRow.holds Try.pinned (OpenSpec.upto aesEncryptsSpec)

end Rows
end Go.Proofs.Ytlamngilmkaliaa
