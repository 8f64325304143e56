/- A signature's bytes. -/
import Derived.Test.YtjpnbbhpgchbpaaGreatDoorRows
import Derived.Test.YtjpnbbhpgchbpaaGreatDoorEdG
import Derived.Test.YtjpnbbhpgchbpaaGreatDoorDrTG
import Derived.Test.YtjpnbbhpgchbpaaGreatDoorPmNG
import Derived.Deep.WholeRow
import Derived.Deep.RegionHeld3
import Derived.Deep.DeepCutAuto
import Derived.Deep.DeepFit
namespace Go.Proofs.YtjpnbbhpgchbpaaGreatDoor
open Go.RowKit

/-- a signature's element, of two numbers' bodies -/
def sigT (x y : List Int) : Tl := .mk 0 16 true [] [.mk 0 2 false x [], .mk 0 2 false y []]
/-- a number in an element -/
def partP : Tl → Option (List Int)
  | .mk c t m b _ => if c = 0 ∧ t = 2 ∧ m = false then (match numP b with | .ok n => some n | .error _ => none) else none
/-- two numbers in a list -/
def sigP : Tl → Option (List Int × List Int)
  | .mk c t m _ [a, b] => if c = 0 ∧ t = 16 ∧ m = true then (match partP a, partP b with | some x, some y => some (x, y) | _, _ => none) else none
  | _ => none
/-- 48 bytes of a number -/
def Is48 (X : List Int) (r : Int) : Prop := X.length = 48 ∧ byt X ∧ beN X = r
end Go.Proofs.YtjpnbbhpgchbpaaGreatDoor
