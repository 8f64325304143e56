/- The two tables of the field as they lie in memory. (Plain part.) -/
import Derived.Test.YtnkipgbnnhahbaaHeld
import Derived.Test.YtnkipgbnnhahbaaSixK
import Derived.Test.YtnkipgbnnhahbaaMMath
import Derived.Test.YtnkipgbnnhahbaaRows
namespace Go.Proofs.Ytnkipgbnnhahbaa
open Go.RowKit
/-- the order -/
def QQ : Int := 39402006196394479212279040100143613805079739270465446667946905279627659399113263569398956308152294913554433653942643
theorem QQ_pos : 0 < QQ := by decide
end Go.Proofs.Ytnkipgbnnhahbaa
