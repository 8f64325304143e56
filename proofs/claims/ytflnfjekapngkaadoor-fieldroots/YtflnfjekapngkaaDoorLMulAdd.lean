/- math/bits.Mul64 and limb.mulAdd: x * y + s + c, its low limb first. -/
import Derived.Test.YtflnfjekapngkaaDoorRows
import Derived.Test.YtflnfjekapngkaaDoorLAdd
import Derived.Laws.MathBits
namespace Go.Proofs.YtflnfjekapngkaaDoor
open Go.RowKit

theorem ret_two {a b c d : Int} (h : a = b) (h' : c = d) : Ending.returned (.tuple #[.int .u64 a, .int .u64 c]) = .returned (.tuple #[.int .u64 b, .int .u64 d]) := by rw [h, h']

theorem wrap_bd (z : Int) : 0 ≤ IntKind.u64.wrap z ∧ IntKind.u64.wrap z < 18446744073709551616 := by rw [IntKind.wrap_u64]; omega

theorem mul64_hi (x y : Int) (hx0 : 0 ≤ x) (hx : x < 18446744073709551616) (hy0 : 0 ≤ y) (hy : y < 18446744073709551616) :
    IntKind.u64.wrap (IntKind.u64.wrap (IntKind.u64.wrap (x / 4294967296 * (y / 4294967296)) + IntKind.u64.wrap (IntKind.u64.wrap (x / 4294967296 * (y % 4294967296)) + IntKind.u64.wrap (x % 4294967296 * (y % 4294967296)) / 4294967296) / 4294967296) +
      IntKind.u64.wrap (bits .and .u64 (IntKind.u64.wrap (IntKind.u64.wrap (x / 4294967296 * (y % 4294967296)) + IntKind.u64.wrap (x % 4294967296 * (y % 4294967296)) / 4294967296)) 4294967295 + IntKind.u64.wrap (x % 4294967296 * (y / 4294967296))) / 4294967296) = x * y / 18446744073709551616 := by
  rw [and_low32 _ (wrap_bd _).1 (wrap_bd _).2]
  simp only [IntKind.wrap_u64]
  exact mul64_arith x y hx0 hx hy0 hy

set_option maxRecDepth 100000 in
set_option maxHeartbeats 1000000 in
theorem mul64_any (x y : Int) (w : World) (hx0 : 0 ≤ x) (hx : x < 18446744073709551616) (hy0 : 0 ≤ y) (hy : y < 18446744073709551616) :
    Calls Tryd.prog 68 #[.int .u64 x, .int .u64 y] w fun e w' => e = .returned (.tuple #[.int .u64 (x * y / 18446744073709551616), .int .u64 (x * y % 18446744073709551616)]) ∧ w' = w := by
  have a1 := and_low32 x hx0 hx
  have a2 := and_low32 y hy0 hy
  have H : Hid _ := mul64_hi x y hx0 hx hy0 hy
  go_enter Tryd.func68, Tryd.ntmps68
  go_wp2
  go_ret2
  exact ⟨ret_two H.out (IntKind.wrap_u64 _), rfl⟩

theorem prod_bd (x y : Int) (hx0 : 0 ≤ x) (hx : x < 18446744073709551616) (hy0 : 0 ≤ y) (hy : y < 18446744073709551616) : 0 ≤ x * y ∧ x * y ≤ 340282366920938463426481119284349108225 := by
  refine ⟨Int.mul_nonneg hx0 hy0, ?_⟩
  have := Int.mul_le_mul (show x ≤ 18446744073709551615 by omega) (show y ≤ 18446744073709551615 by omega) hy0 (by decide)
  omega

set_option maxRecDepth 100000 in
set_option maxHeartbeats 1000000 in
theorem mulAdd_any (x y s c : Int) (w : World) (hx0 : 0 ≤ x) (hx : x < 18446744073709551616) (hy0 : 0 ≤ y) (hy : y < 18446744073709551616) (hs0 : 0 ≤ s) (hs : s < 18446744073709551616) (hc0 : 0 ≤ c) (hc : c < 18446744073709551616) :
    Calls Tryd.prog 70 #[.int .u64 x, .int .u64 y, .int .u64 s, .int .u64 c] w fun e w' =>
      e = .returned (.tuple #[.int .u64 ((x * y + s + c) % 18446744073709551616), .int .u64 ((x * y + s + c) / 18446744073709551616)]) ∧ w' = w := by
  have hp := prod_bd x y hx0 hx hy0 hy
  have M := fun w => mul64_any x y w hx0 hx hy0 hy
  obtain ⟨p, hpp⟩ : ∃ p, x * y = p := ⟨_, rfl⟩
  rw [hpp] at hp M ⊢
  obtain ⟨hi, hhi⟩ : ∃ z, p / 18446744073709551616 = z := ⟨_, rfl⟩
  obtain ⟨lo, hlo⟩ : ∃ z, p % 18446744073709551616 = z := ⟨_, rfl⟩
  rw [hhi, hlo] at M
  have A1 := add64_run lo s 0 (by omega) hs0 (by omega) (by omega)
  obtain ⟨l1, hl1⟩ : ∃ z, (lo + s + 0) % 18446744073709551616 = z := ⟨_, rfl⟩
  obtain ⟨k1, hk1⟩ : ∃ z, (lo + s + 0) / 18446744073709551616 = z := ⟨_, rfl⟩
  rw [hl1, hk1] at A1
  have A2 := add64_run l1 c 0 (by omega) hc0 (by omega) (by omega)
  obtain ⟨l2, hl2⟩ : ∃ z, (l1 + c + 0) % 18446744073709551616 = z := ⟨_, rfl⟩
  obtain ⟨k2, hk2⟩ : ∃ z, (l1 + c + 0) / 18446744073709551616 = z := ⟨_, rfl⟩
  rw [hl2, hk2] at A2
  have E1 : Hid (l2 = (p + s + c) % 18446744073709551616) := by show _ = _; omega
  have E2 : Hid (hi + k1 + k2 = (p + s + c) / 18446744073709551616) := by show _ = _; omega
  have b1 : hi + k1 + k2 ≤ 18446744073709551615 := by omega
  have b2 : 0 ≤ hi := by omega
  have b3 : 0 ≤ k1 := by omega
  have b4 : 0 ≤ k2 := by omega
  clear hpp hp hhi hlo hl1 hk1 hl2 hk2
  go_enter Tryd.func70, Tryd.ntmps70
  go_wp2_with fail
  refine (M _).mono ?_
  rintro e w' ⟨rfl, hw⟩
  obtain rfl := hw.symm
  go_wp2_with fail
  go_ret2
  exact ⟨ret_two E1.out E2.out, rfl⟩
end Go.Proofs.YtflnfjekapngkaaDoor
