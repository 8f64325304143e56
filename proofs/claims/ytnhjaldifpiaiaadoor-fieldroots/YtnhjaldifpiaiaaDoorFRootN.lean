/- Roots modulo the prime, by Euler's criterion: plain facts on numbers. -/
import Derived.Test.YtnhjaldifpiaiaaDoorFBase
import Derived.Test.YtnhjaldifpiaiaaDoorFRefP
import Derived.Test.YtnhjaldifpiaiaaDoorFRoot
namespace Go.Proofs.YtnhjaldifpiaiaaDoor

/-- in whole numbers: a product that a prime divides -/
theorem prime_int {p : Nat} (hp : Pr p) {a b : Int} (h : (a * b) % (p : Int) = 0) : a % (p : Int) = 0 ∨ b % (p : Int) = 0 := by
  have hd : (p : Int) ∣ a * b := Int.dvd_of_emod_eq_zero h
  have hn : p ∣ a.natAbs * b.natAbs := by
    rw [← Int.natAbs_mul]
    exact Int.ofNat_dvd_left.1 hd
  rcases hp.split hn with h1 | h1
  · exact .inl (Int.emod_eq_zero_of_dvd (Int.ofNat_dvd_left.2 h1))
  · exact .inr (Int.emod_eq_zero_of_dvd (Int.ofNat_dvd_left.2 h1))

theorem pow_mod_int (x m : Int) (e : Nat) : (x % m) ^ e % m = x ^ e % m := by
  induction e with
  | zero => simp
  | succ n ih => rw [Int.pow_succ, Int.pow_succ, Int.mul_emod, ih, Int.emod_emod, ← Int.mul_emod]

/-- Euler's criterion, for r = x^e, e + e = h + 1 -/
theorem euler {p e h : Nat} (hp : Pr p) (he : e + e = h + 1) (h0 : 0 < h) (h1 : 1 < p) (x r : Int) (hr : r = x ^ e % (p : Int)) :
    (x ^ h % (p : Int) = 0 ∨ x ^ h % (p : Int) = 1) ↔ (r * r) % (p : Int) = x % (p : Int) := by
  have hrr : (r * r) % (p : Int) = (x ^ h * x) % (p : Int) := by
    rw [hr, ← Int.mul_emod, ← Int.pow_add, he, Int.pow_succ]
  have one : (1 : Int) % (p : Int) = 1 := Int.emod_eq_of_lt (by omega) (by omega)
  rw [hrr]
  constructor
  · rintro (k | k)
    · rw [Int.mul_emod, k, Int.zero_mul, Int.zero_emod]
      have hx : ∀ n : Nat, x ^ n % (p : Int) = 0 → x % (p : Int) = 0 := by
        intro n
        induction n with
        | zero => intro k; rw [Int.pow_zero, one] at k; omega
        | succ n ih =>
          intro k
          rw [Int.pow_succ] at k
          rcases prime_int hp k with k | k
          · exact ih k
          · exact k
      exact (hx h k).symm
    · rw [Int.mul_emod, k, Int.one_mul, Int.emod_emod]
  · intro k
    have k2 : ((x ^ h - 1) * x) % (p : Int) = 0 := by
      rw [Int.sub_mul, Int.one_mul]
      exact Int.emod_eq_emod_iff_emod_sub_eq_zero.1 k
    rcases prime_int hp k2 with k3 | k3
    · right
      rw [Int.emod_eq_emod_iff_emod_sub_eq_zero.2 k3, one]
    · left
      rw [← pow_mod_int, k3]
      obtain ⟨n, rfl⟩ : ∃ n, h = n + 1 := ⟨h - 1, by omega⟩
      rw [Int.pow_succ, Int.mul_zero, Int.zero_emod]

/-- squares have Euler's power 0 or 1 -/
theorem euler_sq {p h : Nat} (hp : Pr p) (hh : h + h + 1 = p) (h0 : 0 < h) (x y : Int) (hx : 0 ≤ x) (hy : y = (x * x) % (p : Int)) : y ^ h % (p : Int) = 0 ∨ y ^ h % (p : Int) = 1 := by
  rw [hy, pow_mod_int, Int.mul_pow, ← Int.pow_add]
  obtain ⟨n, rfl⟩ := Int.eq_ofNat_of_zero_le hx
  rw [← Int.natCast_pow, ← Int.natCast_emod]
  by_cases hd : p ∣ n
  · left
    rw [Nat.pow_mod, Nat.mod_eq_zero_of_dvd hd, Nat.zero_pow (by omega), Nat.zero_mod]
    rfl
  · right
    have := fermat hp hd
    rw [show p - 1 = h + h by omega] at this
    rw [this]
    rfl

theorem pm_same {p : Nat} (hp : Pr p) {x z : Int} (h : (z * z) % (p : Int) = (x * x) % (p : Int)) (z0 : 0 ≤ z) (z1 : z < (p : Int)) : z = x % (p : Int) ∨ z = (0 - x) % (p : Int) := by
  have k : ((z - x) * (z + x)) % (p : Int) = 0 := by
    have e : (z - x) * (z + x) = z * z - x * x := by grind
    rw [e]
    exact Int.emod_eq_emod_iff_emod_sub_eq_zero.1 h
  rcases prime_int hp k with k | k
  · left
    have := Int.emod_eq_emod_iff_emod_sub_eq_zero.2 k
    rw [Int.emod_eq_of_lt z0 z1] at this
    exact this
  · right
    have e : z % (p : Int) = (0 - x) % (p : Int) := Int.emod_eq_emod_iff_emod_sub_eq_zero.2 (by rw [show z - (0 - x) = z + x by omega]; exact k)
    rw [Int.emod_eq_of_lt z0 z1] at e
    exact e

theorem half_nat : (PP / 2).toNat = 19701003098197239606139520050071806902539869635232723333974146702122860885748435164523633044129469000930803486556159 := by decide

/-- Root's answer is right or none just where Square says so -/
theorem root_iff {x r : Int} (h : Out x 9850501549098619803069760025035903451269934817616361666987073351061430442874217582261816522064734500465401743278080 r) : sqB x = decide ((r * r) % PP = x % PP) := by
  unfold Out at h
  unfold sqB Eu
  rw [half_nat, PP_nat] at *
  exact decide_eq_decide.2 (euler pr_P (by decide +kernel) (by decide +kernel) (by decide +kernel) x r h)

theorem root_sq {x y r : Int} (hx : 0 ≤ x) (hy : y = (x * x) % PP) (h : Out y 9850501549098619803069760025035903451269934817616361666987073351061430442874217582261816522064734500465401743278080 r) : (r * r) % PP = y % PP := by
  have h1 := root_iff h
  have h2 : sqB y = true := by
    unfold sqB Eu
    rw [half_nat, PP_nat] at *
    exact decide_eq_true (euler_sq pr_P (by decide +kernel) (by decide +kernel) x y hx hy)
  rw [h2] at h1
  exact of_decide_eq_true h1.symm

theorem even_is {r : Int} (h0 : 0 ≤ r) (h1 : r < PP) : evenOf r % 2 = 0 ∧ 0 ≤ evenOf r ∧ evenOf r < PP ∧ (evenOf r * evenOf r) % PP = (r * r) % PP := by
  unfold evenOf
  have ho := PP_odd
  split
  · have e : (0 - r) % PP = PP - r := by
      rw [show 0 - r = PP - r + PP * (-1) by omega, Int.add_mul_emod_self_left, Int.emod_eq_of_lt (by omega) (by omega)]
    rw [e]
    refine ⟨by omega, by omega, by omega, ?_⟩
    have e2 : (PP - r) * (PP - r) = r * r + PP * (PP - r - r) := by grind
    rw [e2, Int.add_mul_emod_self_left]
  · exact ⟨by omega, h0, h1, rfl⟩

theorem out_bd {x r : Int} {e : Nat} (h : Out x e r) : 0 ≤ r ∧ r < PP := by
  unfold Out at h
  rw [h]; exact ⟨Int.emod_nonneg _ (by decide), Int.emod_lt_of_pos _ PP_pos⟩
end Go.Proofs.YtnhjaldifpiaiaaDoor
