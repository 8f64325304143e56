/- A signature's bytes. -/
import Derived.Test.YtnkipgbnnhahbaaEdU0
import Derived.Test.YtnkipgbnnhahbaaOBasePl
import Derived.Test.YtnkipgbnnhahbaaByt
import Derived.Test.YtnkipgbnnhahbaaBase
import Derived.Test.YtnkipgbnnhahbaaDrPar
import Derived.Test.YtnkipgbnnhahbaaPmNum
import Derived.Test.YtnkipgbnnhahbaaRows
import Derived.Shelf.Spec.BitsCarry
import Derived.Deep.RegionHeld3
import Derived.Deep.WholeRow
import Derived.Deep.DeepCutAuto
import Derived.Deep.DeepFit
namespace Go.Proofs.Ytnkipgbnnhahbaa
open Go.RowKit
/-- a signature's element, of two numbers' bodies -/
def sigT (x y : List Int) : Tl := .mk 0 16 true [] [.mk 0 2 false x [], .mk 0 2 false y []]
/-- a number in an element -/
def partP : Tl → Option (List Int)
  | .mk c t m b _ => if c = 0 ∧ t = 2 ∧ m = false then (match numP b with | .ok n => some n | .error _ => none) else none
/-- two numbers in a list -/
def sigP : Tl → Option (List Int × List Int)
  | .mk c t m _ [a, b] => if c = 0 ∧ t = 16 ∧ m = true then (match partP a, partP b with | some x, some y => some (x, y) | _, _ => none) else none
  | _ => none
/-- 48 bytes of a number -/
def Is48 (X : List Int) (r : Int) : Prop := X.length = 48 ∧ byt X ∧ beN X = r
end Go.Proofs.Ytnkipgbnnhahbaa
