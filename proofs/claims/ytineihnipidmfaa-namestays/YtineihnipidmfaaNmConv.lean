/- The law's kind. -/
import Derived.Test.YtineihnipidmfaaRows
import Derived.Test.YtineihnipidmfaaNmSpec
import Derived.Test.YtineihnipidmfaaNmConvT
import Derived.Deep.WholeRow
import Derived.Deep.RegionHeld3
import Derived.Deep.DeepCutAuto
import Derived.Deep.DeepFit
namespace Go.Proofs.Ytineihnipidmfaa
open Go.RowKit

set_option maxRecDepth 100000 in
theorem con_kind16 {k : Int} {w : World} : Calls Try.prog 23 #[.int .i64 k] w fun e w' => e = .returned (.bool (kindN k)) ∧ w' = w := by
  have e3 : (k == 3) = decide (k = 3) := rfl
  have e6 : (k == 6) = decide (k = 6) := rfl
  have e10 : (k == 10) = decide (k = 10) := rfl
  have e11 : (k == 11) = decide (k = 11) := rfl
  have HK : Hid (kindN k = (decide (k = 3) || decide (k = 6) || decide (k = 10) || decide (k = 11))) := rfl
  generalize decide (k = 3) = b3 at *
  generalize decide (k = 6) = b6 at *
  generalize decide (k = 10) = b10 at *
  generalize decide (k = 11) = b11 at *
  go_enter Try.func23, Try.ntmps23
  cases b3
  · cases b6
    · cases b10
      · go_wp2_with fail
        go_ret
        exact ⟨by rw [HK.out]; rfl, rfl⟩
      · go_wp2_with fail
        go_ret
        exact ⟨by rw [HK.out]; rfl, rfl⟩
    · go_wp2_with fail
      go_ret
      exact ⟨by rw [HK.out]; rfl, rfl⟩
  · go_wp2_with fail
    go_ret
    exact ⟨by rw [HK.out]; rfl, rfl⟩
end Go.Proofs.Ytineihnipidmfaa
