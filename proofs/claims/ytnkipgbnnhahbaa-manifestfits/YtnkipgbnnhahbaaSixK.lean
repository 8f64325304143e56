/- Six limbs that fit. -/
import Derived.Test.YtnkipgbnnhahbaaBase
namespace Go.Proofs.Ytnkipgbnnhahbaa
theorem fits6 {x0 x1 x2 x3 x4 x5 : Int} (h : (0 ≤ x0 ∧ x0 < 18446744073709551616) ∧ (0 ≤ x1 ∧ x1 < 18446744073709551616) ∧ (0 ≤ x2 ∧ x2 < 18446744073709551616) ∧ (0 ≤ x3 ∧ x3 < 18446744073709551616) ∧ (0 ≤ x4 ∧ x4 < 18446744073709551616) ∧ (0 ≤ x5 ∧ x5 < 18446744073709551616)) : fits [x0, x1, x2, x3, x4, x5] := by
  obtain ⟨h0, h1, h2, h3, h4, h5⟩ := h
  intro j
  match j with
  | 0 => exact h0
  | 1 => exact h1
  | 2 => exact h2
  | 3 => exact h3
  | 4 => exact h4
  | 5 => exact h5
  | _ + 6 => exact ⟨by simp, by simp⟩
end Go.Proofs.Ytnkipgbnnhahbaa
