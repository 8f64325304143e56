/- What makes 1 of a number, by Fermat, modulo a prime. -/
import Derived.Test.YtnkipgbnnhahbaaPrime
namespace Go.Proofs.Ytnkipgbnnhahbaa
theorem inv_gen {p e : Nat} (hp : Pr p) (he : e + 2 = p) (h0 : 0 < e) {x z : Int} (hx : 0 ≤ x) (hz : z = x ^ e % (p : Int)) : (x % (p : Int) = 0 → z = 0) ∧ (x % (p : Int) ≠ 0 → (x * z) % (p : Int) = 1) := by
  obtain ⟨n, rfl⟩ := Int.eq_ofNat_of_zero_le hx
  rw [← Int.natCast_pow, ← Int.natCast_emod] at hz
  subst hz
  rw [← Int.natCast_emod]
  constructor
  · intro h
    have h1 : n % p = 0 := by omega
    rw [Nat.pow_mod, h1, Nat.zero_pow h0, Nat.zero_mod]
    rfl
  · intro h
    have h1 : ¬ p ∣ n := fun hd => h (by rw [Nat.mod_eq_zero_of_dvd hd]; rfl)
    have h2 := fermat hp h1
    rw [show p - 1 = e + 1 by omega, Nat.pow_succ] at h2
    rw [← Int.natCast_mul, ← Int.natCast_emod, Nat.mul_mod, Nat.mod_mod, ← Nat.mul_mod, Nat.mul_comm, h2]
    rfl
end Go.Proofs.Ytnkipgbnnhahbaa
