/- Identifiers, read and told as the program does it. Plain facts. -/
import Derived.Test.YtnkipgbnnhahbaaPmOidN
namespace Go.Proofs.Ytnkipgbnnhahbaa
theorem getD_left {L m : List Int} {j : Nat} (hj : j < L.length) : (L ++ m).getD j 0 = L.getD j 0 := by
  simp [List.getD_eq_getElem?_getD, List.getElem?_append_left hj]
/-- values that may be told -/
def GoodL (L : List Int) : Prop := ¬ 4294967375 < L.getD 0 0 ∧ ∀ j, j < L.length → 0 < j → ¬ 4294967295 < L.getD j 0
theorem GoodL.one {x : Int} (h : ¬ 4294967375 < x) : GoodL [x] := ⟨h, fun j h1 h2 => absurd h1 (by show ¬ j < 1; omega)⟩
theorem getD_last {L : List Int} {n : Int} : (L ++ [n]).getD L.length 0 = n := by simp [List.getD_eq_getElem?_getD]
theorem GoodL.add {L : List Int} {n : Int} (h : GoodL L) (h0 : 0 < L.length) (hn : ¬ 4294967295 < n) : GoodL (L ++ [n]) := by
  refine ⟨by rw [getD_left h0]; exact h.1, fun j h1 h2 => ?_⟩
  by_cases k : j < L.length
  · rw [getD_left k]; exact h.2 j k h2
  · rw [List.length_append] at h1
    replace h1 : j < L.length + 1 := h1
    rw [show j = L.length by omega, getD_last]
    exact hn
end Go.Proofs.Ytnkipgbnnhahbaa
