/- Powers Montgomery's way, by bits; in numbers alone. -/
import Derived.Test.YtpenapcgpplghabMNum
import Derived.Test.YtpenapcgpplghabLBit
import Derived.Test.YtpenapcgpplghabLPick
namespace Go.Proofs.Ytpenapcgpplghab

theorem mont_in {M a r t : Int} (ho : M % 2 = 1) (ht : t = (18446744073709551616 ^ 6 * 18446744073709551616 ^ 6) % M) (h : (18446744073709551616 ^ 6 * r) % M = (a * t) % M) : r % M = (a * 18446744073709551616 ^ 6) % M := by
  subst ht
  generalize hR : (18446744073709551616 : Int) ^ 6 = R at *
  have e : (a * (R * R % M)) % M = (R * (a * R)) % M := by
    rw [Int.mul_emod, Int.emod_emod, ← Int.mul_emod]; congr 1; grind
  rw [e] at h
  rw [← hR] at h
  have := cut_R ho h
  rw [hR] at this
  exact this

theorem mont_step {M A B x y r : Int} (ho : M % 2 = 1) (hx : x % M = (A * 18446744073709551616 ^ 6) % M) (hy : y % M = (B * 18446744073709551616 ^ 6) % M) (h : (18446744073709551616 ^ 6 * r) % M = (x * y) % M) : r % M = (A * B * 18446744073709551616 ^ 6) % M := by
  generalize hR : (18446744073709551616 : Int) ^ 6 = R at *
  have e : (x * y) % M = (R * (A * B * R)) % M := by
    rw [Int.mul_emod, hx, hy, ← Int.mul_emod]; congr 1; grind
  rw [e, ← hR] at h
  have := cut_R ho h
  rw [hR] at this
  exact this

theorem mont_out {M A x r : Int} (ho : M % 2 = 1) (hx : x % M = (A * 18446744073709551616 ^ 6) % M) (h : (18446744073709551616 ^ 6 * r) % M = (x * 1) % M) (h0 : 0 ≤ r) (h1 : r < M) : r = A % M := by
  rw [Int.mul_one, hx, Int.mul_comm A] at h
  have := cut_R ho h
  rw [← this, Int.emod_eq_of_lt h0 h1]

theorem limb_bit : ∀ (D : List Int) (q r : Nat), fits D → r < 64 → q < D.length → (v64 D).toNat / 2 ^ (64 * q + r) % 2 = (D.getD q 0).toNat / 2 ^ r % 2
  | [], q, r, _, _, h => absurd h (by simp)
  | d :: D, 0, r, hd, hr, _ => by
    obtain ⟨h0, hD⟩ := fits_cons hd
    have b := (v64_bound D hD).1
    have e : (v64 (d :: D)).toNat = d.toNat + 18446744073709551616 * (v64 D).toNat := by
      show (d + 18446744073709551616 * v64 D).toNat = _
      omega
    rw [e, Nat.mul_zero, Nat.zero_add, List.getD_cons_zero]
    have p : 18446744073709551616 = 2 ^ r * (2 * 2 ^ (63 - r)) := by
      rw [← Nat.mul_assoc, Nat.mul_comm (2 ^ r) 2, ← Nat.pow_succ', ← Nat.pow_add, show r + 1 + (63 - r) = 64 by omega]
    rw [p, Nat.mul_assoc, Nat.add_mul_div_left _ _ (Nat.two_pow_pos r), Nat.mul_assoc, Nat.add_mul_mod_self_left]
  | d :: D, q + 1, r, hd, hr, h => by
    obtain ⟨h0, hD⟩ := fits_cons hd
    have b := (v64_bound D hD).1
    have e : (v64 (d :: D)).toNat = d.toNat + 18446744073709551616 * (v64 D).toNat := by
      show (d + 18446744073709551616 * v64 D).toNat = _
      omega
    have ih := limb_bit D q r hD hr (by simpa using h)
    rw [List.getD_cons_succ, ← ih, e, show 64 * (q + 1) + r = 64 + (64 * q + r) by omega, Nat.pow_add, ← Nat.div_div_eq_div_mul]
    congr 2
    rw [show (2 : Nat) ^ 64 = 18446744073709551616 by decide, Nat.add_mul_div_left _ _ (by decide), Nat.div_eq_of_lt (by omega), Nat.zero_add]

theorem bitN_nat (K : List Int) (j : Nat) (l : K.length = 6) (f : fits K) (hj : j < 384) : bitN K j = (((v64 K).toNat / 2 ^ j % 2 : Nat) : Int) := by
  rw [bitN_in K j hj]
  have e := limb_bit K (j / 64) (j % 64) f (by omega) (by omega)
  rw [show 64 * (j / 64) + j % 64 = j by omega] at e
  rw [e]
  have b := f (j / 64)
  generalize K.getD (j / 64) 0 = d at *
  have : d / 2 ^ (j % 64) = ((d.toNat / 2 ^ (j % 64) : Nat) : Int) := by
    rw [Int.natCast_ediv, Int.toNat_of_nonneg b.1, Int.natCast_pow]; rfl
  rw [this]; omega

/-- a round: the square, or the square times the base, by the bit -/
theorem exp_round {a M q1 q2 z : Int} {E j : Nat} {bit : Int} (hb : bit = ((E / 2 ^ j % 2 : Nat) : Int)) (h1 : q1 % M = (a ^ (E / 2 ^ (j + 1)) * a ^ (E / 2 ^ (j + 1)) * 18446744073709551616 ^ 6) % M) (h2 : q2 % M = (a ^ (E / 2 ^ (j + 1)) * a ^ (E / 2 ^ (j + 1)) * a * 18446744073709551616 ^ 6) % M) (hz : z = if bit % 2 = 1 then q2 else q1) : z % M = (a ^ (E / 2 ^ j) * 18446744073709551616 ^ 6) % M := by
  rw [hz, pow_step a E j, pow_bit]
  by_cases h : E / 2 ^ j % 2 = 1
  · rw [if_pos (by omega), if_pos h, h2]
  · rw [if_neg (by omega), if_neg h, h1, Int.mul_one]

theorem pk_num {n : Int} {A B Z : List Int} (h : pk n A B = Z) : v64 Z = if n % 2 = 1 then v64 B else v64 A := by
  rw [← h]
  unfold pk oddB
  by_cases e : n % 2 = 1
  · simp [e]
  · simp [e]

theorem pow_whole (a : Int) (E : Nat) : a ^ (E / 2 ^ 0) = a ^ E := by rw [Nat.pow_zero, Nat.div_one]

theorem toNat_pow (x : Int) (n : Nat) (h0 : 0 ≤ x) (h : x < 2 ^ n) : x.toNat < 2 ^ n := by
  have h : ((x.toNat : Nat) : Int) < ((2 ^ n : Nat) : Int) := by
    rw [Int.toNat_of_nonneg h0, Int.natCast_pow]
    exact h
  exact Int.ofNat_lt.1 h

theorem pow_zero_of (a : Int) (E n : Nat) (h : E < 2 ^ n) : a ^ (E / 2 ^ n) = 1 := by
  rw [Nat.div_eq_of_lt h, Int.pow_zero]

theorem pow_none (a : Int) (K : List Int) (l : K.length = 6) (f : fits K) (n : Nat) (hn : n = 384) : a ^ ((v64 K).toNat / 2 ^ n) = 1 := by
  have b := v6_bound K l f
  rw [← r_pow, ← hn] at b
  exact pow_zero_of a _ n (toNat_pow _ n b.1 b.2)
end Go.Proofs.Ytpenapcgpplghab
