/- An error that is a Code. -/
import Derived.Test.YtnkipgbnnhahbaaOBasePl
import Derived.Test.YtnkipgbnnhahbaaRows
namespace Go.Proofs.Ytnkipgbnnhahbaa
open Go.RowKit
/-- an error that is a Code itself -/
def codeV (c : Int) : Value := .iface 38 (.int .i64 c)
end Go.Proofs.Ytnkipgbnnhahbaa
