/- Texts of bytes are alike where the bytes are. -/
import Derived.Test.YtineihnipidmfaaFrom
import Derived.Laws.BytesArg
import Derived.Lib.Strings
namespace Go.Proofs.Ytineihnipidmfaa
open Go.RowKit

theorem str_oneS : ∀ {A B : List Int}, byt A → byt B → (A.map fun n => UInt8.ofNat n.toNat) = (B.map fun n => UInt8.ofNat n.toNat) → A = B
  | [], [], _, _, _ => rfl
  | [], _ :: _, _, _, h => by simp at h
  | _ :: _, [], _, _, h => by simp at h
  | a :: A, b :: B, ha, hb, h => by
    simp only [List.map_cons, List.cons.injEq] at h
    have a0 : 0 ≤ a ∧ a < 256 := ha 0
    have b0 : 0 ≤ b ∧ b < 256 := hb 0
    have e := congrArg UInt8.toNat h.1
    rw [UInt8.toNat_ofNat_of_lt' (show a.toNat < 256 by omega), UInt8.toNat_ofNat_of_lt' (show b.toNat < 256 by omega)] at e
    have t := str_oneS (fun j => ha (j + 1)) (fun j => hb (j + 1)) h.2
    rw [t, show a = b by omega]
theorem str_eqS {A B : List Int} (ha : byt A) (hb : byt B) : ((strOfNums A).toList == (strOfNums B).toList) = decide (A = B) := by
  have e : ∀ X : List Int, (strOfNums X).toList = X.map fun n => UInt8.ofNat n.toNat := fun X => by
    rw [Lib.toList_data]
    rfl
  rw [e, e]
  by_cases h : A = B
  · subst h
    simp
  · rw [decide_eq_false h]
    apply beq_eq_false_iff_ne.2
    intro e
    exact h (str_oneS ha hb e)
end Go.Proofs.Ytineihnipidmfaa
