/- The laws of layer 13: what they share. -/
import Derived.Test.YteejcokpkginbabRows
import Derived.Test.YteejcokpkginbabCErr
import Derived.Test.YteejcokpkginbabPmLaw0
import Derived.Deep.WholeRow
import Derived.Deep.RegionHeld3
import Derived.Deep.DeepCutAuto
import Derived.Deep.DeepFit
namespace Go.Proofs.Yteejcokpkginbab
open Go.RowKit

theorem con_Code0 {w : World} : Calls Try.prog 11 #[.nilIface] w fun e w' => e = .returned (.int .i64 0) ∧ Below w.heap.size w w' := by
  have q1 := code_nil
  go_enter Try.func11, Try.ntmps11
  go_wp2_with fail
  go_ret
  exact ⟨rfl, Below.refl _ _⟩
theorem con_CodeC {c : Nat} {w : World} (h : 1 ≤ c ∧ c ≤ 21) : Calls Try.prog 11 #[.iface 33 (.int .i64 (c : Int))] w fun e w' => e = .returned (.int .i64 (c : Int)) ∧ Below w.heap.size w w' := code_any (by omega) (by omega)
end Go.Proofs.Yteejcokpkginbab
