/- The law's own 'one': the number 1. -/
import Derived.Test.YtlgcbnciehndgabRows
import Derived.Test.YtlgcbnciehndgabBase
namespace Go.Proofs.Ytlgcbnciehndgab
open Go.RowKit

set_option maxRecDepth 100000 in
theorem one_any (w : World) :
    Calls Try.prog 8 #[] w fun e w' => e = .returned (.agg #[.int .u64 1, .int .u64 0, .int .u64 0, .int .u64 0, .int .u64 0, .int .u64 0]) ∧ Below w.heap.size w w' := by
  go_enter Try.func8, Try.ntmps8
  go_wp2
  exact bodyPost_ret (v := .agg #[.int .u64 1, .int .u64 0, .int .u64 0, .int .u64 0, .int .u64 0, .int .u64 0]) (by simp [results, Try.results8, go_sem]) rfl ⟨rfl, (Below.refl _ _).alloc (Nat.le_refl _) _⟩
end Go.Proofs.Ytlgcbnciehndgab
