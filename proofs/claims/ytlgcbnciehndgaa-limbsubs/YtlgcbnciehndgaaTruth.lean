/- The law's own 'bit': a truth as a bit. -/
import Derived.Test.YtlgcbnciehndgaaRows
import Derived.Test.YtlgcbnciehndgaaBase
namespace Go.Proofs.Ytlgcbnciehndgaa
open Go.RowKit

/-- a truth as a number -/
def tb (b : Bool) : Int := if b then 1 else 0

set_option maxRecDepth 100000 in
theorem truth_any (b : Bool) (w : World) :
    Calls Try.prog 14 #[.bool b] w fun e w' => e = .returned (.int .u64 (tb b)) ∧ w' = w := by
  cases b
  · go_enter Try.func14, Try.ntmps14
    go_wp2
    go_ret
    exact ⟨rfl, rfl⟩
  · go_enter Try.func14, Try.ntmps14
    go_wp2
    go_ret
    exact ⟨rfl, rfl⟩
end Go.Proofs.Ytlgcbnciehndgaa
