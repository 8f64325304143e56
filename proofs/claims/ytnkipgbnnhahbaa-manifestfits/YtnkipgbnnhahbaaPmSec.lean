/- The document's Seconds of layer 13. -/
import Derived.Test.YtnkipgbnnhahbaaPmDay
import Derived.Test.YtnkipgbnnhahbaaRows
import Derived.Deep.OwnRows
import Derived.Deep.WholeRow
import Derived.Deep.RegionHeld3
import Derived.Deep.DeepCutAuto
import Derived.Deep.DeepFit
namespace Go.Proofs.Ytnkipgbnnhahbaa
open Go.RowKit
/-- the days of years, one behind the other -/
def ysum (a : Nat) : Nat → Nat
  | 0 => 0
  | n + 1 => ysum a n + 337 + daysN (a + n) 2
/-- the days of a year's months -/
def msum (y : Nat) : Nat → Nat
  | 0 => 0
  | n + 1 => msum y n + daysN y (n + 1)
theorem ysum_le (a : Nat) : ∀ n, ysum a n ≤ 368 * n
  | 0 => Nat.le_refl _
  | n + 1 => by rw [ysum]; have := ysum_le a n; have := days_le (y := a + n) (m := 2); omega
theorem msum_le (y : Nat) : ∀ n, msum y n ≤ 31 * n
  | 0 => Nat.le_refl _
  | n + 1 => by rw [msum]; have := msum_le y n; have := days_le (y := y) (m := n + 1); omega
theorem ysum_next {a k : Nat} (h : a ≤ k) : ysum a (k + 1 - a) = ysum a (k - a) + 337 + daysN k 2 := by
  rw [show k + 1 - a = (k - a) + 1 by omega, ysum, show a + (k - a) = k by omega]
theorem msum_next {y k : Nat} (h : 1 ≤ k) : msum y (k + 1 - 1) = msum y (k - 1) + daysN y k := by
  rw [show k + 1 - 1 = (k - 1) + 1 by omega, msum, show k - 1 + 1 = k by omega]
/-- seconds from 1970 up to a day -/
def secN (y m d : Nat) : Int := ((ysum 1970 (y - 1970) : Int) - (ysum y (1970 - y) : Int) + (msum y (m - 1) : Int) + (d : Int) - 1) * 86400
theorem sec_bd {y m d : Nat} (hy : y ≤ 10000) (hm : m ≤ 12) (hd : d ≤ 100) : -400000000000 ≤ secN y m d ∧ secN y m d ≤ 400000000000 := by
  have h1 := ysum_le 1970 (y - 1970)
  have h2 := ysum_le y (1970 - y)
  have h3 := msum_le y (m - 1)
  unfold secN
  omega
end Go.Proofs.Ytnkipgbnnhahbaa
