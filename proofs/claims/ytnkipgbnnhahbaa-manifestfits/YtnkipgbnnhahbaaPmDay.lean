/- The document's digits and days of layer 13. -/
import Derived.Test.YtnkipgbnnhahbaaPmCut
import Derived.Test.YtnkipgbnnhahbaaPut
import Derived.Test.YtnkipgbnnhahbaaRows
import Derived.Deep.OwnRows
import Derived.Deep.AppendLies
import Derived.Deep.WholeRow
import Derived.Deep.RegionHeld3
import Derived.Deep.DeepCutAuto
import Derived.Deep.DeepFit
namespace Go.Proofs.Ytnkipgbnnhahbaa
open Go.RowKit
/-- a number of digits -/
def digV : List Int → Int → Int
  | [], v => v
  | x :: xs, v => if x < 48 ∨ 57 < x then -1 else digV xs (10 * v + (x - 48))
theorem digV_next {n : List Int} {i : Nat} (h : i < n.length) (v : Int) : digV (n.drop i) v = if n.getD i 0 < 48 ∨ 57 < n.getD i 0 then -1 else digV (n.drop (i + 1)) (10 * v + (n.getD i 0 - 48)) := by
  rw [List.drop_eq_getElem_cons h, digV]
  have e : n.getD i 0 = n[i] := by simp [List.getD_eq_getElem?_getD, h]
  rw [e]
theorem ten_le {i : Nat} (h : i ≤ 14) : (10 : Int) ^ i ≤ 100000000000000 := by
  have hi : i = 0 ∨ i = 1 ∨ i = 2 ∨ i = 3 ∨ i = 4 ∨ i = 5 ∨ i = 6 ∨ i = 7 ∨ i = 8 ∨ i = 9 ∨ i = 10 ∨ i = 11 ∨ i = 12 ∨ i = 13 ∨ i = 14 := by omega
  rcases hi with rfl | rfl | rfl | rfl | rfl | rfl | rfl | rfl | rfl | rfl | rfl | rfl | rfl | rfl | rfl <;> decide
def monN : List Nat := [31, 28, 31, 30, 31, 30, 31, 31, 30, 31, 30, 31]
/-- the days of a month -/
def daysN (y m : Nat) : Nat := if m = 2 ∧ (y % 400 = 0 ∨ (y % 4 = 0 ∧ ¬ y % 100 = 0)) then 29 else monN.getD (m - 1) 0
theorem mon_get {m : Nat} (h1 : 1 ≤ m) (h2 : m ≤ 12) : ([.int .i64 31, .int .i64 28, .int .i64 31, .int .i64 30, .int .i64 31, .int .i64 30, .int .i64 31, .int .i64 31, .int .i64 30, .int .i64 31, .int .i64 30, .int .i64 31] : List Value)[m - 1]? = some (.int .i64 ((monN.getD (m - 1) 0 : Nat) : Int)) := by
  have hi : m = 1 ∨ m = 2 ∨ m = 3 ∨ m = 4 ∨ m = 5 ∨ m = 6 ∨ m = 7 ∨ m = 8 ∨ m = 9 ∨ m = 10 ∨ m = 11 ∨ m = 12 := by omega
  rcases hi with rfl | rfl | rfl | rfl | rfl | rfl | rfl | rfl | rfl | rfl | rfl | rfl <;> rfl
theorem days_le {y m : Nat} : daysN y m ≤ 31 := by
  unfold daysN
  split
  · decide
  · by_cases h : m - 1 < 12
    · have hi : m - 1 = 0 ∨ m - 1 = 1 ∨ m - 1 = 2 ∨ m - 1 = 3 ∨ m - 1 = 4 ∨ m - 1 = 5 ∨ m - 1 = 6 ∨ m - 1 = 7 ∨ m - 1 = 8 ∨ m - 1 = 9 ∨ m - 1 = 10 ∨ m - 1 = 11 := by omega
      rcases hi with e | e | e | e | e | e | e | e | e | e | e | e <;> rw [e] <;> decide
    · have hl : monN.length ≤ m - 1 := by have : monN.length = 12 := rfl; omega
      rw [List.getD_eq_getElem?_getD, List.getElem?_eq_none hl]; decide
end Go.Proofs.Ytnkipgbnnhahbaa
