/- Rows of bytes of one's own, and bytes behind a cut. -/
import Derived.Test.YtnkipgbnnhahbaaPmNum
import Derived.Test.YtnkipgbnnhahbaaApBs
import Derived.Test.YtnkipgbnnhahbaaWpRow
import Derived.Test.YtnkipgbnnhahbaaRows
import Derived.Deep.OwnRows
import Derived.Deep.AppendLies
import Derived.Deep.WholeRow
import Derived.Deep.RegionHeld3
import Derived.Deep.DeepCutAuto
import Derived.Deep.DeepFit
namespace Go.Proofs.Ytnkipgbnnhahbaa
open Go.RowKit
theorem own_nilM (w : World) : (w.alloc (.cells #[] 5)).ownsRow w.heap.size 5 1 (.slice (some ⟨w.heap.size, 0, none⟩) 0 0) 0 (u8s []) := own_made w [] 5 0 w.heap.size rfl (Nat.le_refl _) (by decide)
theorem own_geM {w : World} {base : Nat} {e : TypeId} {v : Value} {n : Nat} {xs : List Value} {j : Nat} (h : w.ownsRow base e 1 v n xs) (hj : v.ownBlock = some j) : base ≤ j := by
  rcases h.2 with ⟨h1, _⟩ | ⟨g, c, cur, h1, h2, _⟩
  · rw [h1] at hj; simp [Value.ownBlock] at hj
  · rw [h1] at hj; simp [Value.ownBlock] at hj; omega
/-- bytes behind a cut, wherever an empty one lies -/
theorem bs_cutM {w : World} {g o n cap r m k : Nat} {ad : Option Addr} {B : List Int} (h : Bs w (.slice (some ⟨g, o, none⟩) n cap) B) (hn : B.length = n) (hr : r ≤ n) (hm : m = n - r) (ha : 0 < m → ad = some ⟨g, o + r, none⟩) (hk : k = cap - r) : Bs w (.slice ad m k) (B.drop r) := by
  obtain ⟨a, c, e, h1, h2, h3⟩ := h
  obtain ⟨rfl, _, rfl⟩ : some ⟨g, o, none⟩ = a ∧ n = B.length ∧ cap = c := by simpa using e
  have el : (B.drop r).length = m := by rw [List.length_drop, hn, hm]
  refine ⟨ad, k, by rw [el], by rw [hk]; exact Nat.le_trans (Nat.sub_le _ _) h1, by rw [el, hm, hk]; exact Nat.sub_le_sub_right (by rw [← hn]; exact h2) r, fun h0 => ?_⟩
  rw [el] at h0 ⊢
  obtain ⟨b', o', e', k1, k2⟩ := h3 (by rw [hn]; exact Nat.lt_of_lt_of_le h0 (by rw [hm]; exact Nat.sub_le _ _))
  simp only [Option.some.injEq, Addr.mk.injEq] at e'
  obtain ⟨rfl, rfl, -⟩ := e'
  refine ⟨g, o + r, ha h0, k1, fun j hj => ?_⟩
  rw [Nat.add_assoc, k2 (r + j) (by omega), List.getD_eq_getElem?_getD, List.getD_eq_getElem?_getD, List.getElem?_drop]
end Go.Proofs.Ytnkipgbnnhahbaa
