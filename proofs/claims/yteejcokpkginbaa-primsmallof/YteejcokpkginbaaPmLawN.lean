/- The laws of layer 13: what errors there are. -/
import Derived.Test.YteejcokpkginbaaRows
import Derived.Test.YteejcokpkginbaaPmSmall
import Derived.Deep.WholeRow
import Derived.Deep.RegionHeld3
import Derived.Deep.DeepCutAuto
import Derived.Deep.DeepFit
namespace Go.Proofs.Yteejcokpkginbaa
open Go.RowKit

theorem lessZ_len (B : List Int) : (lessZ B).length ≤ B.length := by
  rw [lessZ_drop, List.length_drop]
  omega
theorem numOf_bad {B : List Int} {c : Nat} (h : numOf B = .error c) : 1 ≤ c ∧ c ≤ 21 := by
  unfold numOf at h
  split at h
  · cases h; omega
  · split at h <;> cases h
theorem numOf_good {B n : List Int} (b : byt B) (h : numOf B = .ok n) : byt n ∧ n.length ≤ 65 ∧ byt (lessZ B) := by
  have hl : byt (lessZ B) := by rw [lessZ_drop]; exact byt_dropM b _
  unfold numOf at h
  by_cases c : 64 < (lessZ B).length
  · rw [if_pos c] at h; cases h
  · rw [if_neg c] at h
    by_cases d : (lessZ B).length = 0 ∨ 127 < (lessZ B).getD 0 0
    · rw [if_pos d] at h
      cases h
      refine ⟨fun j => ?_, by rw [List.length_cons]; omega, hl⟩
      cases j with
      | zero => rw [List.getD_cons_zero]; omega
      | succ j => rw [List.getD_cons_succ]; exact hl j
    · rw [if_neg d] at h
      cases h
      exact ⟨hl, by omega, hl⟩
theorem small_bad {B : List Int} {c : Nat} (h : smallP B = .error c) : 1 ≤ c ∧ c ≤ 21 := by
  unfold smallP at h
  cases hp : numP B with
  | error k =>
    rw [hp] at h
    cases h
    have := num_bad hp
    omega
  | ok n =>
    rw [hp] at h
    simp only at h
    split at h
    · cases h; omega
    · cases h
theorem smallOf_bad {x : Int} {c : Nat} (h : smallOf x = .error c) : 1 ≤ c ∧ c ≤ 21 := by
  unfold smallOf at h
  split at h
  · cases h; omega
  · exact numOf_bad h
theorem smallOf_good {x : Int} {n : List Int} (h : smallOf x = .ok n) : byt n ∧ n.length ≤ 65 := by
  unfold smallOf at h
  split at h
  · cases h
  · have := numOf_good (digF_byt 4 _ _ (fun j => by simp)) h
    exact ⟨this.1, this.2.1⟩
end Go.Proofs.Yteejcokpkginbaa
