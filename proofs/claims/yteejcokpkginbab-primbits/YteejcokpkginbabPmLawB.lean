/- The laws of layer 13 on bits and texts: what errors there are. -/
import Derived.Test.YteejcokpkginbabRows
import Derived.Test.YteejcokpkginbabPmNum
import Derived.Deep.WholeRow
import Derived.Deep.RegionHeld3
import Derived.Deep.DeepCutAuto
import Derived.Deep.DeepFit
namespace Go.Proofs.Yteejcokpkginbab
open Go.RowKit

theorem bits_bad {B : List Int} {c : Nat} (h : bitsP B = .error c) : 1 ≤ c ∧ c ≤ 21 := by
  unfold bitsP at h
  split at h
  · cases h; omega
  · split at h
    · cases h
    · cases h; omega
theorem text_bad {B : List Int} {c : Nat} (h : textP B = .error c) : 1 ≤ c ∧ c ≤ 21 := by
  unfold textP at h
  split at h
  · cases h; omega
  · split at h
    · cases h; omega
    · split at h
      · cases h; omega
      · cases h
end Go.Proofs.Yteejcokpkginbab
