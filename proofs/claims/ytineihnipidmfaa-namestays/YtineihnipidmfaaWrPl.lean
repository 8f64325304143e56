/- Rows of one's own that are written in the middle: what stays. -/
import Derived.Test.YtineihnipidmfaaRows
import Derived.Test.YtineihnipidmfaaBase
import Derived.Test.YtineihnipidmfaaDrDG
import Derived.Deep.MidRow
namespace Go.Proofs.Ytineihnipidmfaa
open Go.RowKit

theorem Blk.cellsO {c g : Nat} {X : List Value} (hne : c ≠ g) : ∀ (vs : List Value) (o : Nat) (w : World), Blk w c X → Blk (w.setCells g o vs) c X
  | [], _, _, h => h
  | v :: vs, o, w, h => Blk.cellsO hne vs (o + 1) (w.setCell ⟨g, o, none⟩ v) (h.other _ _ hne)
theorem Blk.cellsS {g : Nat} : ∀ (vs : List Value) (o : Nat) (w : World) (X : List Value), Blk w g X → ∃ Y, Blk (w.setCells g o vs) g Y ∧ Y.length = X.length
  | [], _, _, X, h => ⟨X, h, rfl⟩
  | v :: vs, o, w, X, h => by
    obtain ⟨Y, h1, h2⟩ := Blk.cellsS vs (o + 1) (w.setCell ⟨g, o, none⟩ v) (X.set o v) (h.set o v)
    exact ⟨Y, h1, by rw [h2, List.length_set]⟩
theorem below_cells {B g : Nat} {a : World} (hg : B ≤ g) : ∀ (vs : List Value) (o : Nat) (w : World), Below B a w → Below B a (w.setCells g o vs)
  | [], _, _, h => h
  | v :: vs, o, w, h => below_cells hg vs (o + 1) (w.setCell ⟨g, o, none⟩ v) (h.setCell hg v)
theorem agr_cells {S : Nat → Prop} {g : Nat} {a : World} (hg : ¬ S g) : ∀ (vs : List Value) (o : Nat) (w : World), Agr S a w → Agr S a (w.setCells g o vs)
  | [], _, _, h => h
  | v :: vs, o, w, h => agr_cells hg vs (o + 1) (w.setCell ⟨g, o, none⟩ v) (h.cell hg)
/-- a row of L elements that may be written, in a block from B on, below U -/
def WrP (w : World) (v : Value) (L size B U : Nat) : Prop := L = 0 ∨ ∃ g cap, v = .slice (some ⟨g, 0, none⟩) L cap ∧ L ≤ cap ∧ B ≤ g ∧ g < U ∧ ∃ X, Blk w g X ∧ X.length = cap * size
theorem WrP.of_own {w : World} {base size : Nat} {e : TypeId} {v : Value} {n : Nat} {xs : List Value} (h : w.ownsRow base e size v n xs) : WrP w v n size base w.heap.size := by
  rcases h.2 with ⟨_, h2⟩ | ⟨g, cap, cur, h1, h2, h3, h4, _, h6, _⟩
  · exact .inl h2
  · exact .inr ⟨g, cap, h1, h4, h2, (Array.getElem?_eq_some_iff.1 h3).1, cur.toList, ⟨e, by simpa using h3⟩, by simpa using h6⟩
theorem WrP.later {w w' : World} {v : Value} {L size B U : Nat} (h : WrP w v L size B U) (hb : Below w.heap.size w w') : WrP w' v L size B U := by
  rcases h with h | ⟨g, cap, h1, h2, h3, h4, X, h5, h6⟩
  · exact .inl h
  · exact .inr ⟨g, cap, h1, h2, h3, h4, X, h5.later hb, h6⟩
theorem WrP.agr {w w' : World} {v : Value} {L size B U : Nat} (h : WrP w v L size B U) (ha : Agr (fun b => B ≤ b) w w') : WrP w' v L size B U := by
  rcases h with h | ⟨g, cap, h1, h2, h3, h4, X, h5, h6⟩
  · exact .inl h
  · exact .inr ⟨g, cap, h1, h2, h3, h4, X, h5.agr ha h3, h6⟩
theorem Blk.there {w : World} {g : Nat} {X : List Value} (h : Blk w g X) {o n : Nat} (hl : o + n ≤ X.length) : w.there g o n := fun j hj =>
  ⟨by rw [h.cell (o + j) _ (List.getElem?_eq_getElem (by omega))]; rfl, h.frozen _⟩
end Go.Proofs.Ytineihnipidmfaa
