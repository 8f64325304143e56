/- Numbers by a modulus: what is taken off, what is left, Montgomery's steps; plain facts on numbers alone. -/
import Derived.Test.YtnkipgbnnhahbaaBase
namespace Go.Proofs.Ytnkipgbnnhahbaa
/-- the digits of a modulus as New makes it -/
structure IsMod (M : List Int) (i : Int) (T : List Int) : Prop where
  lM : M.length = 6
  fM : fits M
  lT : T.length = 6
  fT : fits T
  i0 : 0 ≤ i
  i1 : i < 18446744073709551616
  inv : (i * M.getD 0 0) % 18446744073709551616 = 18446744073709551615
  big : 18446744073709551616 ^ 6 ≤ 2 * v64 M
  odd : v64 M % 2 = 1
  two : v64 T = (18446744073709551616 ^ 6 * 18446744073709551616 ^ 6) % v64 M
theorem v6_bound (A : List Int) (l : A.length = 6) (h : fits A) : 0 ≤ v64 A ∧ v64 A < 18446744073709551616 ^ 6 := by
  have := v64_bound A h
  rw [l] at this; exact this
/-- what is left where a modulus is at most once in it -/
theorem once_mod (X M : Int) (h0 : 0 ≤ X) (h : X < 2 * M) : (if M ≤ X then X - M else X) = X % M := by
  split
  · rename_i h1
    rw [show X = X - M + M by omega, Int.add_emod_right, Int.emod_eq_of_lt (by omega) (by omega)]
    omega
  · rw [Int.emod_eq_of_lt h0 (by omega)]
/-- an odd number that divides twice another one divides it -/
theorem odd_half (M X : Int) (ho : M % 2 = 1) (h : (2 * X) % M = 0) : X % M = 0 := by
  obtain ⟨k, hk⟩ := Int.dvd_of_emod_eq_zero h
  have h2 : k % 2 = 0 := by
    have e : (M * k) % 2 = 0 := by omega
    rw [Int.mul_emod, ho] at e
    omega
  have e2 : k = 2 * (k / 2) := by omega
  refine Int.emod_eq_zero_of_dvd ⟨k / 2, ?_⟩
  have : 2 * X = 2 * (M * (k / 2)) := by
    rw [hk]; conv => lhs; rw [e2]
    rw [Int.mul_left_comm]
  omega
theorem odd_pow (M : Int) (ho : M % 2 = 1) : ∀ (n : Nat) (X : Int), (2 ^ n * X) % M = 0 → X % M = 0
  | 0, X, h => by simpa using h
  | n + 1, X, h => by
    rw [Int.pow_succ, Int.mul_assoc] at h
    exact odd_half M X ho (odd_pow M ho n _ h)
theorem r_pow : (2 : Int) ^ 384 = 18446744073709551616 ^ 6 := by
  rw [show (18446744073709551616 : Int) = 2 ^ 64 by decide, ← Int.pow_mul]
/-- R may be cut off both sides -/
theorem cut_R {M X Y : Int} (ho : M % 2 = 1) (h : (18446744073709551616 ^ 6 * X) % M = (18446744073709551616 ^ 6 * Y) % M) : X % M = Y % M := by
  rw [← r_pow] at h
  have h1 : (2 ^ 384 * (X - Y)) % M = 0 := by
    rw [Int.mul_sub]
    exact Int.emod_eq_emod_iff_emod_sub_eq_zero.1 h
  exact Int.emod_eq_emod_iff_emod_sub_eq_zero.2 (odd_pow M ho 384 _ h1)
/-- of a product and R's square, reduced -/
theorem mont_mul {M x r1 r2 t : Int} (ho : M % 2 = 1) (h1 : (18446744073709551616 ^ 6 * r1) % M = x % M) (ht : t = (18446744073709551616 ^ 6 * 18446744073709551616 ^ 6) % M) (h2 : (18446744073709551616 ^ 6 * r2) % M = (r1 * t) % M) : r2 % M = x % M := by
  subst ht
  generalize hR : (18446744073709551616 : Int) ^ 6 = R at *
  have h2' : (r1 * (R * R % M)) % M = (r1 * (R * R)) % M := by rw [Int.mul_emod, Int.emod_emod, ← Int.mul_emod]
  have h3 : (R * r2) % M = (R * (R * r1)) % M := by rw [h2, h2']; congr 1; grind
  rw [← hR] at h3
  have h4 := cut_R ho h3
  rw [hR] at h4
  rw [h4, h1]
end Go.Proofs.Ytnkipgbnnhahbaa
