/- Texts of bytes held against each other. -/
import Derived.Test.YteejcokpkginbabRows
import Derived.Test.YteejcokpkginbabFrom
import Derived.Laws.BytesArg
import Derived.Lib.Strings
namespace Go.Proofs.Yteejcokpkginbab
open Go.RowKit

/-- a text's letters -/
abbrev lett (X : List Int) : List UInt8 := X.map fun n => UInt8.ofNat n.toNat
theorem lett_of (X : List Int) : (strOfNums X).toList = lett X := by
  rw [Lib.toList_data]
  rfl
theorem lett_num {a : Int} (h : 0 ≤ a ∧ a < 256) : (UInt8.ofNat a.toNat).toNat = a.toNat := UInt8.toNat_ofNat_of_lt' (show a.toNat < 256 by omega)
theorem lett_one : ∀ {A B : List Int}, byt A → byt B → lett A = lett B → A = B
  | [], [], _, _, _ => rfl
  | [], _ :: _, _, _, h => by simp at h
  | _ :: _, [], _, _, h => by simp at h
  | a :: A, b :: B, ha, hb, h => by
    simp only [lett, List.map_cons, List.cons.injEq] at h
    have a0 : 0 ≤ a ∧ a < 256 := ha 0
    have b0 : 0 ≤ b ∧ b < 256 := hb 0
    have e := congrArg UInt8.toNat h.1
    rw [lett_num a0, lett_num b0] at e
    have t := lett_one (fun j => ha (j + 1)) (fun j => hb (j + 1)) h.2
    rw [t, show a = b by omega]
theorem lett_eq {A B : List Int} (ha : byt A) (hb : byt B) : (lett A == lett B) = decide (A = B) := by
  by_cases h : A = B
  · subst h; simp
  · rw [decide_eq_false h]
    apply beq_eq_false_iff_ne.2
    intro e
    exact h (lett_one ha hb e)
theorem str_eqM {A B : List Int} (ha : byt A) (hb : byt B) : ((strOfNums A).toList == (strOfNums B).toList) = decide (A = B) := by
  rw [lett_of, lett_of, lett_eq ha hb]
end Go.Proofs.Yteejcokpkginbab
