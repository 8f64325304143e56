/- Powers that are kept times R, modulo the prime: plain facts on numbers. -/
import Derived.Test.YtflnfjekapngkaaDoorFBase
namespace Go.Proofs.YtflnfjekapngkaaDoor

/-- x is a's power e, times R -/
def Mo (a : Int) (e : Nat) (x : Int) : Prop := 0 ≤ x ∧ x < PP ∧ x % PP = (a ^ e * 18446744073709551616 ^ 6) % PP

/-- z is the rest of a's power e -/
def Out (a : Int) (e : Nat) (z : Int) : Prop := z = a ^ e % PP

theorem mo_mul {a x y z : Int} {e f : Nat} (hx : Mo a e x) (hy : Mo a f y) (h0 : 0 ≤ z) (h1 : z < PP) (h : (18446744073709551616 ^ 6 * z) % PP = (x * y) % PP) : Mo a (e + f) z := by
  refine ⟨h0, h1, ?_⟩
  refine cut_R PP_odd ?_
  rw [h, Int.mul_emod, hx.2.2, hy.2.2, ← Int.mul_emod, Int.pow_add]
  generalize (18446744073709551616 : Int) ^ 6 = R
  congr 1
  grind

theorem mo_one {a t z : Int} (ht : t = (18446744073709551616 ^ 6 * 18446744073709551616 ^ 6) % PP) (h0 : 0 ≤ z) (h1 : z < PP) (h : (18446744073709551616 ^ 6 * z) % PP = (a * t) % PP) : Mo a 1 z := by
  refine ⟨h0, h1, ?_⟩
  refine cut_R PP_odd ?_
  rw [h, ht, Int.mul_emod, Int.emod_emod, ← Int.mul_emod, Int.pow_one]
  generalize (18446744073709551616 : Int) ^ 6 = R
  congr 1
  grind

theorem mo_out {a x z : Int} {e : Nat} (hx : Mo a e x) (h0 : 0 ≤ z) (h1 : z < PP) (h : (18446744073709551616 ^ 6 * z) % PP = (x * 1) % PP) : Out a e z := by
  unfold Out
  rw [← Int.emod_eq_of_lt h0 h1]
  refine cut_R PP_odd ?_
  rw [h, Int.mul_one, hx.2.2, Int.mul_comm]

theorem mo_sq {a x : Int} {e k : Nat} (h : Mo a (e * 2 ^ k + e * 2 ^ k) x) : Mo a (e * 2 ^ (k + 1)) x := by
  have : e * 2 ^ (k + 1) = e * 2 ^ k + e * 2 ^ k := by rw [Nat.pow_succ, ← Nat.mul_assoc]; omega
  rw [this]; exact h
end Go.Proofs.YtflnfjekapngkaaDoor
