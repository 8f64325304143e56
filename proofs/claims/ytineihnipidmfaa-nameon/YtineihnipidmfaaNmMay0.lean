/- Texts that may be, part by part. -/
import Derived.Test.YtineihnipidmfaaNmSpec
import Derived.Test.YtineihnipidmfaaNmFact
namespace Go.Proofs.Ytineihnipidmfaa
open Go.RowKit

theorem all_drop {n : List Pn} {i : Nat} {p : Pn} (h : n[i]? = some p) : (n.drop i).all partN = (partN p && (n.drop (i + 1)).all partN) := by
  have e := List.getElem?_eq_some_iff.1 h
  rw [List.drop_eq_getElem_cons e.1, e.2, List.all_cons]
/-- does prim.Text take it? -/
def textB (B : List Int) : Bool := match textP B with | .ok _ => true | .error _ => false
theorem text_err {B : List Int} {c : Nat} (h : textP B = .error c) : c = 2 ∨ c = 7 := by
  unfold textP at h
  split at h
  · cases h; exact .inl rfl
  · split at h
    · cases h; exact .inr rfl
    · split at h
      · cases h; exact .inr rfl
      · cases h
end Go.Proofs.Ytineihnipidmfaa
