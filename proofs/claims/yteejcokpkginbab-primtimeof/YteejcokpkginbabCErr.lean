/- The law's helper Code: an error's number. -/
import Derived.Test.YteejcokpkginbabRows
import Derived.Test.YteejcokpkginbabBase
import Derived.Deep.WholeRow
namespace Go.Proofs.Yteejcokpkginbab
open Go.RowKit

theorem code_eq (c k : Int) : ∀ w : World, (binOp .eql 24 (.iface 33 (.int .i64 c)) (.iface 33 (.int .i64 k))).run Try.prog w = .ok (.bool (decide (c = k))) w := fun w => by
  kernel_rfl
theorem code_nil : ∀ w : World, (binOp .eql 24 .nilIface .nilIface).run Try.prog w = .ok (.bool true) w := fun _ => by kernel_rfl
theorem code_not (c : Int) : ∀ w : World, (binOp .eql 24 (.iface 33 (.int .i64 c)) .nilIface).run Try.prog w = .ok (.bool false) w := fun _ => by kernel_rfl

set_option maxRecDepth 100000 in
set_option maxHeartbeats 1000000 in
theorem code_any {c : Int} {w : World} (h1 : 1 ≤ c) (h2 : c ≤ 21) :
    Calls Try.prog 11 #[.iface 33 (.int .i64 c)] w fun e w' => e = .returned (.int .i64 c) ∧ Below w.heap.size w w' := by
  have q1 := code_not c
  have q2 := code_eq c
  go_enter Try.func11, Try.ntmps11
  go_wp2_with fail
  go_loopw [3] (fun t wx => ∃ k : Nat, (k : Int) ≤ c ∧ 1 ≤ k ∧ t = .int .i64 k ∧ wx = w) (fun t _ => (22 - intOf t).toNat)
  case atStart => exact ⟨1, by omega, by omega, rfl, rfl⟩
  case round =>
    obtain ⟨k, hk, hk1, rfl, rfl⟩ := hrel
    have hlt : (k : Int) ≤ 21 := by omega
    by_cases he : c = (k : Int)
    · subst he
      go_wp2_with fail
      go_ret
      exact ⟨rfl, Below.refl _ _⟩
    · go_wp2_with fail
      go_roundw
      case rel => exact ⟨k + 1, by omega, by omega, by go_num, trivial⟩
      case measure => simp [intOf]; omega
end Go.Proofs.Yteejcokpkginbab
