/- The document's two digits of layer 13. -/
import Derived.Test.YtnkipgbnnhahbaaPmCut
import Derived.Test.YtnkipgbnnhahbaaRows
import Derived.Deep.OwnRows
import Derived.Deep.WholeRow
namespace Go.Proofs.Ytnkipgbnnhahbaa
open Go.RowKit
/-- a number's two digits -/
def twoN (n : Nat) : List Int := [((48 + n / 10 : Nat) : Int), ((48 + n % 10 : Nat) : Int)]
end Go.Proofs.Ytnkipgbnnhahbaa
