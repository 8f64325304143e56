/- The program's rotated word. -/
import Derived.Test.YtbglkbfnhnmodaaDoorRows
import Derived.Test.YtbglkbfnhnmodaaDoorSBits
import Derived.Deep.WholeRow
import Derived.Deep.RegionHeld3
import Derived.Deep.DeepCutAuto
import Derived.Deep.DeepFit
namespace Go.Proofs.YtbglkbfnhnmodaaDoor
open Go.RowKit

theorem rot_and {n : Nat} (h0 : 0 < n) (h1 : n < 64) : bits .and .u64 (18446744073709551616 - (n : Int)) 63 = 64 - (n : Int) := by
  have e : (18446744073709551616 - (n : Int)) = ((18446744073709551616 - n : Nat) : Int) := by omega
  have e2 : (63 : Int) = ((63 : Nat) : Int) := rfl
  rw [e, e2, u64_and_nat _ _ (by omega) (by decide)]
  have := Nat.and_two_pow_sub_one_eq_mod (18446744073709551616 - n) 6
  rw [show (2 ^ 6 - 1 : Nat) = 63 from rfl] at this
  rw [this]
  omega

set_option maxRecDepth 100000 in
theorem con_rl {x : Int} {n : Nat} {w : World} (hx : w64 x) (h0 : 0 < n) (hn : n < 64) :
    Calls Tryd.prog 44 #[.int .u64 x, .int .i64 (-(n : Int))] w fun e w' => e = .returned (.int .u64 (ror x n)) ∧ w' = w := by
  have g1 : IntKind.u64.wrap (-(n : Int)) = 18446744073709551616 - (n : Int) := by rw [IntKind.wrap_u64]; omega
  have g2 := rot_and h0 hn
  have g3 : ¬ (64 - (n : Int)) < 0 := by omega
  have g4 : (64 - (n : Int)).toNat = 64 - n := by omega
  have g5 : IntKind.u64.wrap (64 - (64 - (n : Int))) = (n : Int) := by rw [IntKind.wrap_u64]; omega
  have g6 : ¬ (n : Int) < 0 := by omega
  have HX : Hid (bits .or .u64 (IntKind.u64.wrap (x * 2 ^ (64 - n))) (x / 2 ^ n) = ror x n) := ror_swap hx
  go_enter Tryd.func44, Tryd.ntmps44
  go_wp2
  go_ret
  exact ⟨by rw [← HX.out]; rfl, rfl⟩

set_option maxRecDepth 100000 in
theorem con_rot {x : Int} {n : Nat} {w : World} (hx : w64 x) (h0 : 0 < n) (hn : n < 64) :
    Calls Tryd.prog 43 #[.int .u64 x, .int .i64 (n : Int)] w fun e w' => e = .returned (.int .u64 (ror x n)) ∧ w' = w := by
  have g1 : IntKind.i64.wrap (-(n : Int)) = -(n : Int) := by rw [IntKind.wrap_i64]; omega
  go_enter Tryd.func43, Tryd.ntmps43
  go_wp2_with fail
  refine (con_rl hx h0 hn).mono ?_
  rintro e w' ⟨rfl, rfl⟩
  go_wp2_with fail
  go_ret
  exact ⟨rfl, rfl⟩
theorem con_rotm {x m : Int} {w : World} (hx : w64 x) (h0 : 0 < m) (hn : m < 64) :
    Calls Tryd.prog 43 #[.int .u64 x, .int .i64 m] w fun e w' => e = .returned (.int .u64 (ror x m.toNat)) ∧ w' = w := by
  obtain ⟨n, rfl⟩ := Int.eq_ofNat_of_zero_le (Int.le_of_lt h0)
  exact con_rot hx (by omega) (by omega)
theorem con_rotq {x m : Int} {n : Nat} {w : World} (hm : m = (n : Int)) (hx : w64 x) (h0 : 0 < n) (hn : n < 64) :
    Calls Tryd.prog 43 #[.int .u64 x, .int .i64 m] w fun e w' => e = .returned (.int .u64 (ror x n)) ∧ w' = w := by
  subst hm
  exact con_rot hx h0 hn
end Go.Proofs.YtbglkbfnhnmodaaDoor
