/- The laws of layer 13 on times: what errors there are; three times. -/
import Derived.Test.YteejcokpkginbabRows
import Derived.Test.YteejcokpkginbabPmTback
import Derived.Deep.WholeRow
import Derived.Deep.RegionHeld3
import Derived.Deep.DeepCutAuto
import Derived.Deep.DeepFit
namespace Go.Proofs.Yteejcokpkginbab
open Go.RowKit

theorem timeG_bad {n : Nat} {y m d h i s : Int} {c : Nat} (k : timeG n y m d h i s = .error c) : 1 ≤ c ∧ c ≤ 21 := by
  unfold timeG at k
  split at k
  · cases k; omega
  · split at k
    · cases k; omega
    · cases k
theorem timeF_bad {n : Nat} {B : List Int} {c : Nat} (k : timeF n B = .error c) : 1 ≤ c ∧ c ≤ 21 := by
  unfold timeF at k
  split at k
  · cases k; omega
  · exact timeG_bad k
theorem time_bad {t : Int} {B : List Int} {c : Nat} (k : timeP t B = .error c) : 1 ≤ c ∧ c ≤ 21 := by
  unfold timeP at k
  split at k
  · exact timeF_bad k
  · split at k
    · exact timeF_bad k
    · cases k; omega
theorem timeOf_bad {t : Int} {c : Nat} (k : timeOf t = .error c) : 1 ≤ c ∧ c ≤ 21 := by
  unfold timeOf at k
  split at k
  · cases k; omega
  · cases k
theorem mon_1950 : MonIs (-631152000) 1950 1 := ⟨by decide, by decide, by decide, by decide, by rw [sec_1950]; decide, by rw [sec_1950]; decide⟩
theorem sec_1970 : secN 1970 1 1 = 0 := by rw [sec_year]; decide
theorem mon_1970 : MonIs 0 1970 1 := ⟨by decide, by decide, by decide, by decide, by rw [sec_1970]; decide, by rw [sec_1970]; decide⟩
theorem mon_1970b : MonIs 1 1970 1 := ⟨by decide, by decide, by decide, by decide, by rw [sec_1970]; decide, by rw [sec_1970]; decide⟩
theorem tim_1950 : timeP 23 [53, 48, 48, 49, 48, 49, 48, 48, 48, 48, 48, 48, 90] = .ok (-631152000) := by
  have h := time_back mon_1950
  rw [sec_1950] at h
  exact h
theorem tim_1970 : timeP 23 [55, 48, 48, 49, 48, 49, 48, 48, 48, 48, 48, 49, 90] = .ok 1 := by
  have h := time_back mon_1970b
  rw [sec_1970] at h
  exact h
theorem tof_1970 : timeOf 0 = .ok (23, [55, 48, 48, 49, 48, 49, 48, 48, 48, 48, 48, 48, 90]) := by
  rw [timeOf_is mon_1970 (by decide) (by decide), sec_1970]
  rfl
end Go.Proofs.Yteejcokpkginbab
