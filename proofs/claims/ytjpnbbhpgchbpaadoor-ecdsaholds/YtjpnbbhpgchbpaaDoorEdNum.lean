/- Signatures as numbers: what was signed holds. Plain facts. -/
import Derived.Test.YtjpnbbhpgchbpaaDoorCNum
namespace Go.Proofs.YtjpnbbhpgchbpaaDoor

/-- the order of the base point -/
def OrdN : Nat := 39402006196394479212279040100143613805079739270465446667946905279627659399113263569398956308152294913554433653942643
theorem ord_G : cmul OrdN GG = none := ord_none
theorem cmul_times (q : Nat) : cmul (q * OrdN) GG = none := by rw [cmul_mul on_G, ord_G, cmul_none]
/-- multiples of the base point go by the order -/
theorem cmul_cong {m n : Nat} (h : (OrdN : Int) ∣ (m : Int) - (n : Int)) : cmul m GG = cmul n GG := by
  have key : ∀ {a b : Nat}, b ≤ a → (OrdN : Int) ∣ (a : Int) - (b : Int) → cmul a GG = cmul b GG := by
    intro a b hab hd
    obtain ⟨c, hc⟩ := hd
    have h0 : 0 < (OrdN : Int) := by decide
    have hc0 : 0 ≤ c := by
      rcases Int.lt_or_le c 0 with k | k
      · have h1 : (OrdN : Int) * c < 0 := Int.mul_neg_of_pos_of_neg h0 k
        omega
      · exact k
    obtain ⟨q, rfl⟩ := Int.eq_ofNat_of_zero_le hc0
    have e : a = q * OrdN + b := by
      have h2 : ((a : Nat) : Int) = ((q * OrdN + b : Nat) : Int) := by
        rw [Int.natCast_add, Int.natCast_mul, Int.mul_comm]
        omega
      exact Int.ofNat_inj.1 h2
    rw [e, cmul_add on_G, cmul_times, none_cadd]
  rcases Nat.le_total n m with k | k
  · exact key k h
  · refine (key k ?_).symm
    obtain ⟨c, hc⟩ := h
    exact ⟨-c, by rw [Int.mul_neg, ← hc]; omega⟩
/-- a sum that is nothing: one is the opposite of the other -/
theorem opp_of {P Q : Pt} (hP : OnC P) (hQ : OnC Q) (h : cadd P Q = none) : P = cneg Q := by
  have := cancel hP hQ
  rw [h, none_cadd] at this
  exact this.symm
/-- what was signed holds -/
theorem sign_holds {d k e r s i u v : Nat} (h1 : (OrdN : Int) ∣ (s : Int) * k - (e + r * d)) (h2 : (OrdN : Int) ∣ (s : Int) * i - 1) (hu : (OrdN : Int) ∣ (u : Int) - e * i) (hv : (OrdN : Int) ∣ (v : Int) - r * i) : cadd (cmul u GG) (cmul v (cmul d GG)) = cmul k GG := by
  rw [← cmul_mul on_G, ← cmul_add on_G]
  apply cmul_cong
  have e : (((u + v * d : Nat) : Int)) - (k : Int) = ((u : Int) - e * i) + (d : Int) * ((v : Int) - r * i) - (i : Int) * ((s : Int) * k - (e + r * d)) + (k : Int) * ((s : Int) * i - 1) := by
    rw [Int.natCast_add, Int.natCast_mul]
    grind
  rw [e]
  exact Int.dvd_add (Int.dvd_sub (Int.dvd_add hu (Int.dvd_mul_of_dvd_right hv)) (Int.dvd_mul_of_dvd_right h1)) (Int.dvd_mul_of_dvd_right h2)
/-- so does the signature with N less its S: the opposite point -/
theorem sign_other {d k e r s i u v : Nat} (h1 : (OrdN : Int) ∣ (s : Int) * k - (e + r * d)) (h2 : (OrdN : Int) ∣ ((OrdN : Int) - s) * i - 1) (hu : (OrdN : Int) ∣ (u : Int) - e * i) (hv : (OrdN : Int) ∣ (v : Int) - r * i) : cadd (cmul u GG) (cmul v (cmul d GG)) = cneg (cmul k GG) := by
  rw [← cmul_mul on_G, ← cmul_add on_G]
  refine opp_of (on_cmul on_G _) (on_cmul on_G _) ?_
  rw [← cmul_add on_G]
  have e : (((u + v * d + k : Nat) : Int)) - ((0 : Nat) : Int) = ((u : Int) - e * i) + (d : Int) * ((v : Int) - r * i) - (i : Int) * ((s : Int) * k - (e + r * d)) - (k : Int) * (((OrdN : Int) - s) * i - 1) + (OrdN : Int) * (k * i) := by
    rw [Int.natCast_add, Int.natCast_add, Int.natCast_mul]
    generalize (OrdN : Int) = N
    grind
  have h := cmul_cong (m := u + v * d + k) (n := 0) (by
    rw [e]
    exact Int.dvd_add (Int.dvd_sub (Int.dvd_sub (Int.dvd_add hu (Int.dvd_mul_of_dvd_right hv)) (Int.dvd_mul_of_dvd_right h1)) (Int.dvd_mul_of_dvd_right h2)) ⟨_, rfl⟩)
  rw [h]
  rfl
/-- no smaller multiple is nothing -/
theorem cmul_some {k j : Nat} (h : (OrdN : Int) ∣ (j : Int) * k - 1) : cmul k GG ≠ none := fun e => by
  have h1 : cmul (j * k) GG = cmul 1 GG := cmul_cong (by rw [Int.natCast_mul]; exact h)
  rw [cmul_mul on_G, e, cmul_none, cmul_one] at h1
  cases h1
end Go.Proofs.YtjpnbbhpgchbpaaDoor
