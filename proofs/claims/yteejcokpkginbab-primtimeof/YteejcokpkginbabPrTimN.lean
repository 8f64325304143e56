/- Times, counted as the program does it. Plain facts. -/
import Derived.Test.YteejcokpkginbabPmTof
namespace Go.Proofs.Yteejcokpkginbab

/-- days from the beginning of the year 1 on -/
def ahead (y : Nat) : Int := dayY y - 366
theorem ahead_is {y : Nat} (h : 1 ≤ y) : ((y : Int) - 1) * 365 + (((y - 1) / 4 : Nat) : Int) - (((y - 1) / 100 : Nat) : Int) + (((y - 1) / 400 : Nat) : Int) = ahead y := by
  unfold ahead dayY
  have e1 : (y + 3) / 4 = (y - 1) / 4 + 1 := by omega
  have e2 : (y + 399) / 400 = (y - 1) / 400 + 1 := by omega
  have e3 : (y + 99) / 100 = (y - 1) / 100 + 1 := by omega
  rw [e1, e2, e3]
  generalize (y - 1) / 4 = a
  generalize (y - 1) / 100 = b
  generalize (y - 1) / 400 = c
  omega
theorem ahead_next (y : Nat) : ahead (y + 1) = ahead y + 337 + (daysN y 2 : Nat) := by
  have := dayY_next y
  unfold ahead
  omega
theorem ahead_le {y z : Nat} (h : y ≤ z) : ahead y ≤ ahead z := by
  have := dayY_le h
  unfold ahead
  omega
theorem ahead_1970 : ahead 1970 = 719162 := by decide
theorem ahead_1 : ahead 1 = 0 := by decide
theorem ahead_366 : ∀ n : Nat, ahead (n + 1) ≤ 366 * (n : Int)
  | 0 => by rw [ahead_1]; decide
  | n + 1 => by
    have h1 := ahead_366 n
    have h2 := feb (n + 1)
    rw [ahead_next]
    split at h2 <;> omega
theorem ahead_nonneg {y : Nat} (h : 1 ≤ y) : 0 ≤ ahead y := by
  have := ahead_le h
  rw [ahead_1] at this
  exact this
theorem ahead_top : ahead 10000 = 3652059 := by decide
theorem ahead_1950 : ahead 1950 = 711857 := by decide
theorem sec_ahead (y m d : Nat) : secN y m d = (ahead y - 719162 + (msum y (m - 1) : Int) + (d : Int) - 1) * 86400 := by
  rw [sec_year]
  unfold ahead
  refine congrArg (fun z : Int => z * 86400) ?_
  omega
theorem feb_28 (y : Nat) : 28 ≤ daysN y 2 ∧ daysN y 2 ≤ 29 := by
  rw [feb]
  split <;> omega
theorem feb_ahead (y : Nat) : 28 + ahead (y + 1) - ahead y - 365 = ((daysN y 2 : Nat) : Int) := by
  rw [ahead_next]
  omega
theorem days_30 {y m : Nat} (h : m = 4 ∨ m = 6 ∨ m = 9 ∨ m = 11) : daysN y m = 30 := by
  rw [days_not2 (by omega)]
  rcases h with rfl | rfl | rfl | rfl <;> rfl
theorem days_31 {y m : Nat} (h1 : 1 ≤ m) (h2 : m ≤ 12) (h : ¬ (m = 2 ∨ m = 4 ∨ m = 6 ∨ m = 9 ∨ m = 11)) : daysN y m = 31 := by
  rw [days_not2 (by omega)]
  have : m = 1 ∨ m = 3 ∨ m = 5 ∨ m = 7 ∨ m = 8 ∨ m = 10 ∨ m = 12 := by omega
  rcases this with rfl | rfl | rfl | rfl | rfl | rfl | rfl <;> rfl
/-- the month that a day lies in, and what the second of it tells -/
theorem mon_ahead {t : Int} {y m d c : Nat} (hy1 : 1950 ≤ y) (hy2 : y ≤ 9999) (hm1 : 1 ≤ m) (hm2 : m ≤ 12) (hd : d < daysN y m) (hc : c < 86400) (h : t + 719162 * 86400 = (ahead y + (msum y (m - 1) : Nat) + d) * 86400 + c) : MonIs t y m ∧ (t - secN y m 1).toNat = 86400 * d + c := by
  have e := sec_ahead y m 1
  refine ⟨⟨hy1, hy2, hm1, hm2, ?_, ?_⟩, ?_⟩
  · rw [e]; omega
  · rw [e]; omega
  · rw [e]; omega
theorem year_lo {t : Int} {y : Nat} {d c : Int} (h1 : -631152000 ≤ t) (hc : 0 ≤ c ∧ c < 86400) (h : t + 719162 * 86400 = d * 86400 + c) (hy : d < ahead (y + 1)) : 1950 ≤ y := by
  by_cases k : 1950 ≤ y
  · exact k
  · have := ahead_le (show y + 1 ≤ 1950 by omega)
    rw [ahead_1950] at this
    omega
theorem year_hi {t : Int} {y : Nat} {d c : Int} (h1 : t ≤ 253402300799) (hc : 0 ≤ c ∧ c < 86400) (h : t + 719162 * 86400 = d * 86400 + c) (hy : ahead y ≤ d) : y ≤ 9999 := by
  by_cases k : y ≤ 9999
  · exact k
  · have := ahead_le (show 10000 ≤ y by omega)
    rw [ahead_top] at this
    omega
theorem body_parts {d c : Nat} (hc : c < 86400) : 1 + (86400 * d + c) / 86400 = d + 1 ∧ (86400 * d + c) / 3600 % 24 = c / 3600 ∧ (86400 * d + c) / 60 % 60 = c % 3600 / 60 ∧ (86400 * d + c) % 60 = c % 60 := by
  refine ⟨by omega, ?_, ?_, by omega⟩
  · have : (86400 * d + c) / 3600 = 24 * d + c / 3600 := by omega
    rw [this]; omega
  · have : (86400 * d + c) / 60 = 1440 * d + c / 60 := by omega
    rw [this]
    have : c % 3600 / 60 = c / 60 % 60 := by omega
    rw [this]; omega
/-- pairs of digits -/
def pairN (B : List Int) (i : Nat) : Int := 10 * (B.getD (2 * i) 0 - 48) + (B.getD (2 * i + 1) 0 - 48)
theorem pair_dig {B : List Int} {k i : Nat} (h : allD (B.take k)) (hj : 2 * i + 2 ≤ k) (hk : k ≤ B.length) : digV ((B.drop (2 * i)).take 2) 0 = pairN B i := by
  rw [part_two (by omega), digV_two (get_dig h (by omega) hk) (get_dig h (by omega) hk)]
  rfl
theorem pair_bd {B : List Int} {k i : Nat} (h : allD (B.take k)) (hj : 2 * i + 2 ≤ k) (hk : k ≤ B.length) : 0 ≤ pairN B i ∧ pairN B i ≤ 99 := by
  rw [← pair_dig h hj hk]
  exact part_dig h hj hk
theorem digV_all : ∀ (l : List Int) (v : Int), 0 ≤ v → allD l → 0 ≤ digV l v
  | [], _, h, _ => h
  | x :: l, v, h, a => by
    have hx := a x (List.Mem.head _)
    rw [digV, if_neg (by omega)]
    exact digV_all l _ (by omega) (fun y hy => a y (List.Mem.tail _ hy))
theorem year_pair {B : List Int} {k : Nat} (h : allD (B.take k)) (h4 : 4 ≤ k) (hk : k ≤ B.length) : digV (B.take 4) 0 = 100 * pairN B 0 + pairN B 1 := by
  have h0 := get_dig h (by omega : 0 < k) hk
  have h1 := get_dig h (by omega : 1 < k) hk
  have h2 := get_dig h (by omega : 2 < k) hk
  have h3 := get_dig h (by omega : 3 < k) hk
  rcases B with _ | ⟨a, _ | ⟨b, _ | ⟨c, _ | ⟨d, t⟩⟩⟩⟩
  · simp at hk; omega
  · simp at hk; omega
  · simp at hk; omega
  · simp at hk; omega
  · replace h0 : 48 ≤ a ∧ a ≤ 57 := h0
    replace h1 : 48 ≤ b ∧ b ≤ 57 := h1
    replace h2 : 48 ≤ c ∧ c ≤ 57 := h2
    replace h3 : 48 ≤ d ∧ d ≤ 57 := h3
    rw [show (a :: b :: c :: d :: t).take 4 = [a, b, c, d] from rfl, digV_four h0 h1 h2 h3]
    show _ = 100 * (10 * (a - 48) + (b - 48)) + (10 * (c - 48) + (d - 48))
    omega
/-- the program's own count: of the year 0 too -/
def aheadZ (y : Nat) : Int := if y = 0 then -365 else ahead y
theorem aheadZ_pos {y : Nat} (h : 1 ≤ y) : aheadZ y = ahead y := by unfold aheadZ; rw [if_neg (by omega)]
def mdZ (y m : Nat) : Int := if y = 0 ∧ m = 2 then 28 else ((daysN y m : Nat) : Int)
theorem mdZ_pos {y m : Nat} (h : 1 ≤ y) : mdZ y m = ((daysN y m : Nat) : Int) := by unfold mdZ; rw [if_neg (by omega)]
theorem mdZ_2 (y : Nat) : 28 + aheadZ (y + 1) - aheadZ y - 365 = mdZ y 2 := by
  by_cases h : y = 0
  · subst h; decide
  · rw [aheadZ_pos (by omega), aheadZ_pos (by omega), mdZ_pos (by omega)]
    exact feb_ahead y
theorem mdZ_not2 {y m : Nat} (h : ¬ m = 2) : mdZ y m = ((daysN y m : Nat) : Int) := by unfold mdZ; rw [if_neg (by omega)]
theorem mdZ_bd (y m : Nat) : 0 ≤ mdZ y m ∧ mdZ y m ≤ 31 := by
  unfold mdZ
  split
  · decide
  · have := days_le (y := y) (m := m)
    omega
theorem aheadZ_bd {y : Nat} (h : y ≤ 100000) : -400 ≤ aheadZ y ∧ aheadZ y ≤ 36600000 := by
  unfold aheadZ
  split
  · decide
  · have h1 := ahead_nonneg (y := y) (by omega)
    have h2 := ahead_366 (y - 1)
    rw [show y - 1 + 1 = y by omega] at h2
    omega
/-- whether there is such a moment, as the program says it -/
def exZ (y m d h i s : Nat) : Bool := decide (1 ≤ m ∧ m ≤ 12 ∧ 1 ≤ d ∧ (d : Int) ≤ mdZ y m ∧ h < 24 ∧ i < 60 ∧ s < 60)
/-- what the numbers say, as the program goes -/
theorem timeG_ex {n y m d h i s : Nat} (hn : n = 2 → 1 ≤ y) (hn4 : n = 2 ∨ n = 4) : timeG n (y : Int) (m : Int) (d : Int) (h : Int) (i : Int) (s : Int) = if exZ y m d h i s = false ∨ (n = 4 ∧ y < 2050) then .error 3 else .ok (secN y m d + (3600 * (h : Int) + 60 * (i : Int) + (s : Int))) := by
  unfold timeG exZ
  simp only [Int.toNat_natCast]
  by_cases c : n = 4 ∧ y < 2050
  · rw [if_pos (.inl ⟨c.1, by omega⟩), if_pos (.inr c)]
  · have hy : 1 ≤ y := by
      rcases hn4 with h | h
      · exact hn h
      · omega
    rw [mdZ_pos hy]
    by_cases e : 1 ≤ m ∧ m ≤ 12 ∧ 1 ≤ d ∧ (d : Int) ≤ ((daysN y m : Nat) : Int) ∧ h < 24 ∧ i < 60 ∧ s < 60
    · rw [if_neg (by omega), if_neg (by omega), if_neg (by
        rintro (k | k)
        · rw [decide_eq_true e] at k; cases k
        · exact c k)]
    · refine Eq.trans ?_ (if_pos (Or.inl (decide_eq_false e))).symm
      by_cases e2 : (m : Int) < 1 ∨ 12 < (m : Int) ∨ (d : Int) < 1 ∨ 23 < (h : Int) ∨ 59 < (i : Int) ∨ 59 < (s : Int)
      · rw [if_pos (.inr e2)]
      · rw [if_neg (by omega), if_pos (by omega)]
end Go.Proofs.Yteejcokpkginbab
