/- A slice that lies in a block of its own. -/
import Derived.Test.YteejcokpkginbabFrom
namespace Go.Proofs.Yteejcokpkginbab
open Go.RowKit

/-- what v holds lies in no block of w -/
def NewV (w : World) (v : Value) : Prop := ∀ (a : Addr) (n c : Nat), v = .slice (some a) n c → 0 < n → w.heap.size ≤ a.block
end Go.Proofs.Yteejcokpkginbab
