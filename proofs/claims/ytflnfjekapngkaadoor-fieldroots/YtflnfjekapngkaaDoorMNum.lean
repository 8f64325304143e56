/- Newton's steps, R's square, powers by bits; in numbers alone. -/
import Derived.Test.YtflnfjekapngkaaDoorMMath
namespace Go.Proofs.YtflnfjekapngkaaDoor

/-- Newton's step makes twice as many low bits right -/
theorem newton (o g e : Int) (he : e * e ∣ 18446744073709551616) (h : e ∣ o * g - 1) :
    e * e ∣ o * (g * ((2 - o * g % 18446744073709551616) % 18446744073709551616) % 18446744073709551616) - 1 := by
  rw [Int.emod_def (o * g), Int.emod_def (2 - _), Int.emod_def (g * _)]
  generalize o * g / 18446744073709551616 = x1
  generalize (2 - (o * g - 18446744073709551616 * x1)) / 18446744073709551616 = x2
  generalize g * (2 - (o * g - 18446744073709551616 * x1) - 18446744073709551616 * x2) / 18446744073709551616 = x3
  obtain ⟨d, hd⟩ := he
  obtain ⟨k, hk⟩ := h
  refine ⟨-(k * k) + d * (o * g * (x1 - x2) - o * x3), ?_⟩
  have e1 : o * (g * (2 - (o * g - 18446744073709551616 * x1) - 18446744073709551616 * x2) - 18446744073709551616 * x3) - 1 = -((o * g - 1) * (o * g - 1)) + 18446744073709551616 * (o * g * (x1 - x2) - o * x3) := by grind
  rw [e1, hk]
  generalize o * g * (x1 - x2) - o * x3 = y
  rw [hd]
  grind

def twoPow (k : Nat) : Int := 2 ^ (2 ^ k)

theorem twoPow_succ (k : Nat) : twoPow (k + 1) = twoPow k * twoPow k := by
  unfold twoPow
  rw [← Int.pow_add, Nat.pow_succ, Nat.mul_two]

theorem twoPow_dvd (k : Nat) (h : k ≤ 5) : twoPow k * twoPow k ∣ 18446744073709551616 := by
  match k, h with
  | 0, _ => exact ⟨4611686018427387904, by decide⟩
  | 1, _ => exact ⟨1152921504606846976, by decide⟩
  | 2, _ => exact ⟨72057594037927936, by decide⟩
  | 3, _ => exact ⟨281474976710656, by decide⟩
  | 4, _ => exact ⟨4294967296, by decide⟩
  | 5, _ => exact ⟨1, by decide⟩

theorem newton_end (o g : Int) (h : twoPow 6 ∣ o * g - 1) : (((-g) % 18446744073709551616) * o) % 18446744073709551616 = 18446744073709551615 := by
  have h' : (18446744073709551616 : Int) ∣ o * g - 1 := h
  obtain ⟨k, hk⟩ := h'
  rw [Int.mul_emod, Int.emod_emod, ← Int.mul_emod, show -g * o = -(o * g) by grind]
  generalize o * g = z at *
  omega

theorem dbl_step (R M p : Int) (k : Nat) (h : p = (R * 2 ^ k) % M) : (p + p) % M = (R * 2 ^ (k + 1)) % M := by
  subst h
  rw [← Int.add_emod, Int.pow_succ]
  congr 1; grind

theorem dbl_start (M : Int) (hb : 18446744073709551616 ^ 6 ≤ 2 * M) (ho : M % 2 = 1) (hM : M < 18446744073709551616 ^ 6) : 18446744073709551616 ^ 6 - M = (18446744073709551616 ^ 6 * 2 ^ 0) % M := by
  have he : (18446744073709551616 : Int) ^ 6 % 4 = 0 := by decide
  generalize (18446744073709551616 : Int) ^ 6 = R at *
  rw [show R * 2 ^ 0 = R - M + M by simp, Int.add_emod_right, Int.emod_eq_of_lt (by omega) (by omega)]

theorem v64_odd (M : List Int) : v64 M % 2 = M.getD 0 0 % 2 := by
  match M with
  | [] => rfl
  | a :: A => simp only [v64, pv, List.getD_cons_zero]; omega

theorem v64_big (M : List Int) (l : M.length = 6) (f : fits M) (h : 9223372036854775808 ≤ M.getD 5 0) : 18446744073709551616 ^ 6 ≤ 2 * v64 M := by
  obtain ⟨x0, x1, x2, x3, x4, x5, rfl⟩ := six l
  have h0 := f 0
  have h1 := f 1
  have h2 := f 2
  have h3 := f 3
  have h4 := f 4
  simp [v64, pv] at *
  omega

/-- powers by bits, the highest first -/
theorem pow_step (a : Int) (E i : Nat) : a ^ (E / 2 ^ i) = a ^ (E / 2 ^ (i + 1)) * a ^ (E / 2 ^ (i + 1)) * a ^ (E / 2 ^ i % 2) := by
  rw [← Int.pow_add, ← Int.pow_add]
  congr 1
  rw [Nat.pow_succ, ← Nat.div_div_eq_div_mul]
  omega

theorem pow_bit (a : Int) (n : Nat) : a ^ (n % 2) = if n % 2 = 1 then a else 1 := by
  split
  · rename_i h; rw [h, Int.pow_succ, Int.pow_zero, Int.one_mul]
  · rename_i h; rw [show n % 2 = 0 by omega, Int.pow_zero]

theorem pow_emod (a M : Int) : ∀ n : Nat, (a % M) ^ n % M = a ^ n % M
  | 0 => by rw [Int.pow_zero, Int.pow_zero]
  | n + 1 => by
    rw [Int.pow_succ, Int.pow_succ, Int.mul_emod, pow_emod a M n, Int.emod_emod, ← Int.mul_emod]

end Go.Proofs.YtflnfjekapngkaaDoor
