/- AES's numbers: products of bytes, substitutes, states. Plain facts. -/
import Derived.Test.YtpfmoakapdfdaaaBase
import Derived.Laws.BitsAllLaws
namespace Go.Proofs.Ytpfmoakapdfdaaa
open Go.RowKit

theorem i64_xor_nat (a b : Nat) (ha : a < 4611686018427387904) (hb : b < 4611686018427387904) : bits .xor .i64 (a : Int) (b : Int) = ((a ^^^ b : Nat) : Int) := by
  have hx : a ^^^ b < 2 ^ 62 := Nat.xor_lt_two_pow (by omega) (by omega)
  show IntKind.i64.wrap ((BitVec.ofInt 64 (a : Int) ^^^ BitVec.ofInt 64 (b : Int)).toNat : Int) = _
  have e : ∀ x : Nat, x < 4611686018427387904 → (BitVec.ofInt 64 (x : Int)).toNat = x := fun x h => by
    rw [BitVec.ofInt_natCast, BitVec.toNat_ofNat]; exact Nat.mod_eq_of_lt (by omega)
  rw [BitVec.toNat_xor, e a ha, e b hb, IntKind.wrap_i64]
  omega

/-- a product of polynomials: the first k terms -/
def polN (a b : Nat) : Nat → Nat
  | 0 => 0
  | k + 1 => if b / 2 ^ k % 2 = 1 then polN a b k ^^^ (a * 2 ^ k) else polN a b k
/-- the rest: k steps from the highest on -/
def restN (p : Nat) : Nat → Nat
  | 0 => p
  | k + 1 => if restN p k / 2 ^ (14 - k) % 2 = 1 then restN p k ^^^ (283 * 2 ^ (6 - k)) else restN p k
/-- a product of bytes -/
def prdN (a b : Nat) : Nat := restN (polN a b 8) 7 % 256
theorem polN_lt {a b : Nat} (ha : a < 256) : ∀ k, k ≤ 8 → polN a b k < 32768
  | 0, _ => by rw [polN]; decide
  | k + 1, h => by
    have ih := polN_lt (b := b) ha k (by omega)
    rw [polN]
    split
    · have e : a * 2 ^ k < 2 ^ 15 := by
        have : 2 ^ k ≤ 2 ^ 7 := Nat.pow_le_pow_right (by decide) (by omega)
        have := Nat.mul_lt_mul_of_lt_of_le ha this (by decide)
        omega
      exact Nat.xor_lt_two_pow (n := 15) (by omega) e
    · exact ih
theorem restN_lt {p : Nat} (hp : p < 32768) : ∀ k, k ≤ 7 → restN p k < 262144
  | 0, _ => by rw [restN]; omega
  | k + 1, h => by
    have ih := restN_lt hp k (by omega)
    rw [restN]
    split
    · have e : 283 * 2 ^ (6 - k) < 2 ^ 18 := by
        have : 2 ^ (6 - k) ≤ 2 ^ 6 := Nat.pow_le_pow_right (by decide) (by omega)
        omega
      exact Nat.xor_lt_two_pow (n := 18) (by omega) e
    · exact ih
theorem prdN_lt (a b : Nat) : prdN a b < 256 := Nat.mod_lt _ (by decide)
/-- the last of the first k numbers from 1 on whose product with a is 1 -/
def invN (a : Nat) : Nat → Nat
  | 0 => 0
  | k + 1 => if prdN a (k + 1) = 1 then k + 1 else invN a k
theorem invN_lt (a : Nat) : ∀ k, invN a k ≤ k
  | 0 => Nat.le_refl _
  | k + 1 => by
    rw [invN]
    split
    · omega
    · have := invN_lt a k; omega
/-- a bit of the substitute -/
def bitN (v i : Nat) : Nat := (99 / 2 ^ i % 2 + v / 2 ^ i % 2 + v / 2 ^ ((i + 4) % 8) % 2 + v / 2 ^ ((i + 5) % 8) % 2 + v / 2 ^ ((i + 6) % 8) % 2 + v / 2 ^ ((i + 7) % 8) % 2) % 2
def affN (v : Nat) : Nat → Nat
  | 0 => 0
  | k + 1 => affN v k + bitN v k * 2 ^ k
theorem affN_lt (v : Nat) : ∀ k, affN v k < 2 ^ k
  | 0 => by rw [affN]; decide
  | k + 1 => by
    have ih := affN_lt v k
    have : bitN v k ≤ 1 := Nat.le_of_lt_succ (Nat.mod_lt _ (by decide))
    rw [affN, Nat.pow_succ]
    have := Nat.mul_le_mul_right (2 ^ k) this
    omega
/-- a substitute -/
def subN (a : Nat) : Nat := affN (invN a 255) 8
theorem subN_lt (a : Nat) : subN a < 256 := affN_lt _ 8
end Go.Proofs.Ytpfmoakapdfdaaa
