/- The program's isOid and OidOf of layer 13. -/
import Derived.Test.YtnkipgbnnhahbaaPrOidB
import Derived.Test.YtnkipgbnnhahbaaApUs
import Derived.Test.YtnkipgbnnhahbaaHeld2
import Derived.Test.YtnkipgbnnhahbaaWpOne
import Derived.Test.YtnkipgbnnhahbaaRows
import Derived.Deep.OwnRows
import Derived.Deep.AppendLies
import Derived.Great.BuildSlice
import Derived.Deep.WholeRow
import Derived.Deep.RegionHeld3
import Derived.Deep.DeepCutAuto
import Derived.Deep.DeepFit
namespace Go.Proofs.Ytnkipgbnnhahbaa
open Go.RowKit
/-- whether words are an identifier -/
def RetI (w : World) (L : List Int) (e : Ending) (w' : World) : Prop := ((oidOf L = .ok (b7s (valsO L)) ∧ 2 ≤ L.length ∧ L.length ≤ 16 ∧ L.getD 0 0 ≤ 2 ∧ ∀ j, j < L.length → L.getD j 0 ≤ 4294967295) ∧ e = .returned (.bool true) ∧ w' = w) ∨ (oidOf L = .error 1 ∧ e = .returned (.bool false) ∧ w' = w)
theorem RetI.no {w : World} {L : List Int} (h : oidOf L = .error 1) : RetI w L (.returned (.bool false)) w := .inr ⟨h, rfl, rfl⟩
theorem oidOf_a {L : List Int} (h : L.length < 2 ∨ 16 < L.length ∨ 2 < L.getD 0 0 ∨ (L.getD 0 0 < 2 ∧ 39 < L.getD 1 0)) : oidOf L = .error 1 := by unfold oidOf; rw [if_pos h]
theorem oidOf_b {L : List Int} {j : Nat} (h : j < L.length) (hj : 4294967295 < L.getD j 0) : oidOf L = .error 1 := by
  unfold oidOf
  split
  · rfl
  · rw [if_pos ⟨j, h, hj⟩]
theorem RetI.yes {w : World} {L : List Int} (h : ¬ (L.length < 2 ∨ 16 < L.length ∨ 2 < L.getD 0 0 ∨ (L.getD 0 0 < 2 ∧ 39 < L.getD 1 0))) (h2 : ∀ j, j < L.length → L.getD j 0 ≤ 4294967295) : RetI w L (.returned (.bool true)) w := by
  refine .inl ⟨⟨?_, by omega, by omega, by omega, h2⟩, rfl, rfl⟩
  unfold oidOf
  rw [if_neg h, if_neg (by rintro ⟨j, hj, k⟩; have := h2 j hj; omega)]
theorem own_lowP {w' : World} {base b2 : Nat} {e : TypeId} {v : Value} {n : Nat} {xs : List Value} (h : w'.ownsRow base e 1 v n xs) (hb : b2 ≤ base) : w'.ownsRow b2 e 1 v n xs := by
  obtain ⟨hl, h⟩ := h
  rcases h with h | ⟨g, cap, cur, h1, h2, h3⟩
  · exact ⟨hl, .inl h⟩
  · exact ⟨hl, .inr ⟨g, cap, cur, h1, Nat.le_trans hb h2, h3⟩⟩
end Go.Proofs.Ytnkipgbnnhahbaa
