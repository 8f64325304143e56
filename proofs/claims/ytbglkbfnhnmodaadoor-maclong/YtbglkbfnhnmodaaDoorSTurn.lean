/- The document's rotated word. -/
import Derived.Test.YtbglkbfnhnmodaaDoorRows
import Derived.Test.YtbglkbfnhnmodaaDoorSNum
import Derived.Deep.WholeRow
import Derived.Deep.RegionHeld3
import Derived.Deep.DeepCutAuto
import Derived.Deep.DeepFit
namespace Go.Proofs.YtbglkbfnhnmodaaDoor
open Go.RowKit

set_option maxRecDepth 100000 in
theorem r7_turn {x : Int} {n : Nat} {w : World} (h0 : 0 < n) (hn : n < 64) :
    Calls Tryd.prog 41 #[.int .u64 x, .int .i64 (n : Int)] w fun e w' => e = .returned (.int .u64 (ror x n)) ∧ Below w.heap.size w w' := by
  have g1 : ¬ (n : Int) < 0 := by omega
  have g2 : IntKind.i64.wrap (64 - (n : Int)) = 64 - (n : Int) := by rw [IntKind.wrap_i64]; omega
  have g3 : ¬ (64 - (n : Int)) < 0 := by omega
  have g4 : (64 - (n : Int)).toNat = 64 - n := by omega
  go_enter Tryd.func41, Tryd.ntmps41
  go_wp2
  go_region
  all_goals go_wp2
  all_goals go_ret
  all_goals exact ⟨rfl, (Below.refl _ _).drew⟩
end Go.Proofs.YtbglkbfnhnmodaaDoor
