/- Telling a time: which year, which month. Plain facts. -/
import Derived.Test.YtnkipgbnnhahbaaPmTim
import Derived.Test.YtnkipgbnnhahbaaPmTwo
import Derived.Test.YtnkipgbnnhahbaaRows
namespace Go.Proofs.Ytnkipgbnnhahbaa
theorem feb (y : Nat) : daysN y 2 = if y % 400 = 0 ∨ (y % 4 = 0 ∧ ¬ y % 100 = 0) then 29 else 28 := by
  unfold daysN
  by_cases h : y % 400 = 0 ∨ (y % 4 = 0 ∧ ¬ y % 100 = 0)
  · rw [if_pos ⟨rfl, h⟩, if_pos h]
  · rw [if_neg (fun k => h k.2), if_neg h]; rfl
theorem days_not2 {y m : Nat} (h : ¬ m = 2) : daysN y m = monN.getD (m - 1) 0 := by
  unfold daysN
  rw [if_neg (fun k => h k.1)]
theorem step4 (x : Nat) : (x + 1 + 3) / 4 = (x + 3) / 4 + if x % 4 = 0 then 1 else 0 := by split <;> omega
theorem step100 (x : Nat) : (x + 1 + 99) / 100 = (x + 99) / 100 + if x % 100 = 0 then 1 else 0 := by split <;> omega
theorem step400 (x : Nat) : (x + 1 + 399) / 400 = (x + 399) / 400 + if x % 400 = 0 then 1 else 0 := by split <;> omega
/-- a leap year, by three counts -/
theorem leap3 (x : Nat) : (if x % 400 = 0 ∨ (x % 4 = 0 ∧ ¬ x % 100 = 0) then 29 else 28) + (if x % 100 = 0 then 1 else 0) = 28 + (if x % 4 = 0 then 1 else 0) + (if x % 400 = 0 then 1 else 0) := by
  have h1 : x % 400 = 0 → x % 100 = 0 := by omega
  have h2 : x % 100 = 0 → x % 4 = 0 := by omega
  by_cases c4 : x % 4 = 0
  · by_cases c1 : x % 100 = 0
    · by_cases c400 : x % 400 = 0
      · simp [c4, c1, c400]
      · simp [c4, c1, c400]
    · have c400 : ¬ x % 400 = 0 := fun k => c1 (h1 k)
      simp [c4, c1, c400]
  · have c1 : ¬ x % 100 = 0 := fun k => c4 (h2 k)
    have c400 : ¬ x % 400 = 0 := fun k => c1 (h1 k)
    simp [c4, c1, c400]
/-- the days of years, told at once -/
theorem ysum_at (a : Nat) : ∀ n, ysum a n + ((a + 3) / 4 + (a + 399) / 400) + (a + n + 99) / 100 = 365 * n + ((a + n + 3) / 4 + (a + n + 399) / 400) + (a + 99) / 100
  | 0 => by rw [ysum]
  | n + 1 => by
    have ih := ysum_at a n
    have l := leap3 (a + n)
    rw [ysum, feb, ← Nat.add_assoc a n 1, step4, step100, step400]
    generalize ysum a n = s at *
    generalize (a + 3) / 4 = p1 at *
    generalize (a + 399) / 400 = p2 at *
    generalize (a + 99) / 100 = p3 at *
    generalize (a + n + 3) / 4 = q1 at *
    generalize (a + n + 399) / 400 = q2 at *
    generalize (a + n + 99) / 100 = q3 at *
    generalize (if (a + n) % 400 = 0 ∨ ((a + n) % 4 = 0 ∧ ¬ (a + n) % 100 = 0) then 29 else 28) = e at *
    generalize (if (a + n) % 4 = 0 then 1 else 0) = e1 at *
    generalize (if (a + n) % 100 = 0 then 1 else 0) = e2 at *
    generalize (if (a + n) % 400 = 0 then 1 else 0) = e3 at *
    omega
/-- the days up to a year, from the beginning of the year 0 on -/
def dayY (y : Nat) : Int := 365 * (y : Int) + (((y + 3) / 4 : Nat) : Int) + (((y + 399) / 400 : Nat) : Int) - (((y + 99) / 100 : Nat) : Int)
theorem sec_year (y m d : Nat) : secN y m d = (dayY y - 719528 + (msum y (m - 1) : Int) + (d : Int) - 1) * 86400 := by
  unfold secN dayY
  by_cases h : 1970 ≤ y
  · have e := ysum_at 1970 (y - 1970)
    rw [show 1970 + (y - 1970) = y by omega] at e
    have e0 : ysum y (1970 - y) = 0 := by rw [show 1970 - y = 0 by omega]; rfl
    rw [e0]
    generalize ysum 1970 (y - 1970) = s at *
    generalize msum y (m - 1) = u at *
    refine congrArg (fun z : Int => z * 86400) ?_
    omega
  · have e := ysum_at y (1970 - y)
    rw [show y + (1970 - y) = 1970 by omega] at e
    have e0 : ysum 1970 (y - 1970) = 0 := by rw [show y - 1970 = 0 by omega]; rfl
    rw [e0]
    generalize ysum y (1970 - y) = s at *
    generalize msum y (m - 1) = u at *
    refine congrArg (fun z : Int => z * 86400) ?_
    omega
theorem dayY_next (y : Nat) : dayY (y + 1) = dayY y + 337 + (daysN y 2 : Nat) := by
  have l := leap3 y
  rw [feb]
  unfold dayY
  rw [step4, step100, step400]
  generalize (y + 3) / 4 = q1 at *
  generalize (y + 399) / 400 = q2 at *
  generalize (y + 99) / 100 = q3 at *
  generalize (if y % 400 = 0 ∨ (y % 4 = 0 ∧ ¬ y % 100 = 0) then 29 else 28) = e at *
  generalize (if y % 4 = 0 then 1 else 0) = e1 at *
  generalize (if y % 100 = 0 then 1 else 0) = e2 at *
  generalize (if y % 400 = 0 then 1 else 0) = e3 at *
  omega
theorem dayY_le {y z : Nat} (h : y ≤ z) : dayY y ≤ dayY z := by
  induction z with
  | zero => rw [show y = 0 by omega]; exact Int.le_refl _
  | succ z ih =>
    by_cases e : y = z + 1
    · rw [e]; exact Int.le_refl _
    · have := ih (by omega)
      rw [dayY_next]
      omega
theorem msum_12 (y : Nat) : msum y 12 = 337 + daysN y 2 := by
  simp only [msum]
  rw [days_not2 (m := 1) (by decide), days_not2 (m := 3) (by decide), days_not2 (m := 4) (by decide), days_not2 (m := 5) (by decide), days_not2 (m := 6) (by decide), days_not2 (m := 7) (by decide), days_not2 (m := 8) (by decide), days_not2 (m := 9) (by decide), days_not2 (m := 10) (by decide), days_not2 (m := 11) (by decide), days_not2 (m := 12) (by decide)]
  show 0 + 31 + daysN y 2 + 31 + 30 + 31 + 30 + 31 + 31 + 30 + 31 + 30 + 31 = _
  omega
theorem msum_mono {y m n : Nat} (h : m ≤ n) : msum y m ≤ msum y n := by
  induction n with
  | zero => rw [show m = 0 by omega]; exact Nat.le_refl _
  | succ n ih =>
    by_cases e : m = n + 1
    · rw [e]; exact Nat.le_refl _
    · rw [msum]
      have := ih (by omega)
      omega
theorem sec_1950 : secN 1950 1 1 = -631152000 := by rw [sec_year]; decide
theorem sec_9999 : secN 9999 12 31 = 253402214400 := by
  rw [sec_year, show msum 9999 (12 - 1) = 334 by decide]
  decide
/-- the time t lies in the month m of the year y -/
def MonIs (t : Int) (y m : Nat) : Prop := 1950 ≤ y ∧ y ≤ 9999 ∧ 1 ≤ m ∧ m ≤ 12 ∧ secN y m 1 ≤ t ∧ t < secN y m 1 + 86400 * (daysN y m : Nat)
theorem sec_month {y m : Nat} (h1 : 1 ≤ m) : secN y m 1 + 86400 * (daysN y m : Nat) = secN y (m + 1) 1 := by
  rw [sec_year, sec_year, msum_next h1]
  generalize msum y (m - 1) = s
  generalize daysN y m = d
  omega
theorem sec_next (y : Nat) : secN y 13 1 = secN (y + 1) 1 1 := by
  rw [sec_year, sec_year, dayY_next, show 13 - 1 = 12 from rfl, msum_12, show 1 - 1 = 0 from rfl, msum]
  generalize daysN y 2 = d
  omega
theorem sec_mono {y m n : Nat} (h : m ≤ n) : secN y m 1 ≤ secN y n 1 := by
  rw [sec_year, sec_year]
  have := msum_mono (y := y) (show m - 1 ≤ n - 1 by omega)
  omega
theorem sec_years {y z : Nat} (h : y ≤ z) : secN y 1 1 ≤ secN z 1 1 := by
  rw [sec_year, sec_year, show 1 - 1 = 0 from rfl, msum, msum]
  have := dayY_le h
  omega
/-- the first year whose end lies behind t -/
def yS (t : Int) : Nat → Nat → Nat
  | 0, y => y
  | f + 1, y => if secN (y + 1) 1 1 ≤ t then yS t f (y + 1) else y
def mS (t : Int) (y : Nat) : Nat → Nat → Nat
  | 0, m => m
  | f + 1, m => if m < 12 ∧ secN y (m + 1) 1 ≤ t then mS t y f (m + 1) else m
def yOf (t : Int) : Nat := yS t 8050 1950
def mOf (t : Int) (y : Nat) : Nat := mS t y 12 1
theorem yS_is {t : Int} {y : Nat} (h1 : secN y 1 1 ≤ t) (h2 : t < secN (y + 1) 1 1) : ∀ f z, z ≤ y → y ≤ z + f → yS t f z = y
  | 0, z, a, b => by rw [yS]; omega
  | f + 1, z, a, b => by
    rw [yS]
    by_cases e : z = y
    · rw [e, if_neg (by omega)]
    · rw [if_pos (by have := sec_years (show z + 1 ≤ y by omega); omega)]
      exact yS_is h1 h2 f (z + 1) (by omega) (by omega)
theorem mS_is {t : Int} {y m : Nat} (hm : m ≤ 12) (h1 : secN y m 1 ≤ t) (h2 : m = 12 ∨ t < secN y (m + 1) 1) : ∀ f z, z ≤ m → m ≤ z + f → mS t y f z = m
  | 0, z, a, b => by rw [mS]; omega
  | f + 1, z, a, b => by
    rw [mS]
    by_cases e : z = m
    · rw [e, if_neg (by omega)]
    · rw [if_pos ⟨by omega, by have := sec_mono (y := y) (show z + 1 ≤ m by omega); omega⟩]
      exact mS_is hm h1 h2 f (z + 1) (by omega) (by omega)
theorem mon_year {t : Int} {y m : Nat} (h : MonIs t y m) : yOf t = y ∧ mOf t y = m := by
  obtain ⟨h1, h2, h3, h4, h5, h6⟩ := h
  have e1 : secN y 1 1 ≤ t := Int.le_trans (sec_mono h3) h5
  have e2 : t < secN (y + 1) 1 1 := by
    rw [sec_month h3] at h6
    have := sec_mono (y := y) (show m + 1 ≤ 13 by omega)
    rw [sec_next] at this
    omega
  exact ⟨yS_is e1 e2 8050 1950 h1 (by omega), mS_is h4 h5 (.inr (by rw [← sec_month h3]; exact h6)) 12 1 h3 (by omega)⟩
/-- what was found is it -/
theorem mon_found {t : Int} {y m : Nat} (h1 : 1950 ≤ y) (h2 : y ≤ 9999) (h3 : 1 ≤ m) (h4 : m ≤ 12) (h5 : secN y m 1 ≤ t) (h6 : t < secN (y + 1) 1 1) (h7 : m = 12 ∨ t < secN y (m + 1) 1) : MonIs t y m := by
  refine ⟨h1, h2, h3, h4, h5, ?_⟩
  rw [sec_month h3]
  rcases h7 with e | e
  · rw [e, sec_next]; exact h6
  · exact e
/-- a time's body -/
def bodyT (y m r : Nat) : List Int := (if 2049 < y then twoN (y / 100) else []) ++ twoN (y % 100) ++ twoN m ++ twoN (1 + r / 86400) ++ twoN (r / 3600 % 24) ++ twoN (r / 60 % 60) ++ twoN (r % 60) ++ [90]
def tagT (y : Nat) : Int := if 2049 < y then 24 else 23
def timeOf (t : Int) : Except Nat (Int × List Int) :=
  if t < -631152000 ∨ 253402300799 < t then .error 3
  else .ok (tagT (yOf t), bodyT (yOf t) (mOf t (yOf t)) (t - secN (yOf t) (mOf t (yOf t)) 1).toNat)
theorem timeOf_is {t : Int} {y m : Nat} (h : MonIs t y m) (h1 : ¬ t < -631152000) (h2 : ¬ 253402300799 < t) : timeOf t = .ok (tagT y, bodyT y m (t - secN y m 1).toNat) := by
  obtain ⟨e1, e2⟩ := mon_year h
  unfold timeOf
  rw [if_neg (by omega), e1, e2]
end Go.Proofs.Ytnkipgbnnhahbaa
