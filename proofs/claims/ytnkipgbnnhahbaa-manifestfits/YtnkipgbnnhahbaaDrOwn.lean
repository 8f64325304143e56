/- Bytes in rows of one's own. -/
import Derived.Test.YtnkipgbnnhahbaaTakeRow
import Derived.Test.YtnkipgbnnhahbaaApBs
import Derived.Test.YtnkipgbnnhahbaaHeld2
import Derived.Test.YtnkipgbnnhahbaaRows
import Derived.Deep.OwnRows
import Derived.Deep.AppendLies
import Derived.Deep.WholeRow
import Derived.Deep.RegionHeld3
import Derived.Deep.DeepCutAuto
import Derived.Deep.DeepFit
namespace Go.Proofs.Ytnkipgbnnhahbaa
open Go.RowKit
theorem own_laterD {w w' : World} {base : Nat} {e : TypeId} {v : Value} {n : Nat} {xs : List Value} (h : w.ownsRow base e 1 v n xs) (hb : Below w.heap.size w w') : w'.ownsRow base e 1 v n xs := by
  obtain ⟨hl, h⟩ := h
  rcases h with h | ⟨g, cap, cur, h1, h2, h3, h4⟩
  · exact ⟨hl, .inl h⟩
  · exact ⟨hl, .inr ⟨g, cap, cur, h1, h2, by rw [hb.block g (Array.getElem?_eq_some_iff.1 h3).1]; exact h3, h4⟩⟩
theorem own_geD {w : World} {base : Nat} {e : TypeId} {v : Value} {n : Nat} {xs : List Value} {j : Nat} (h : w.ownsRow base e 1 v n xs) (hj : v.ownBlock = some j) : base ≤ j := by
  rcases h.2 with ⟨h1, _⟩ | ⟨g, c, cur, h1, h2, _⟩
  · rw [h1] at hj; simp [Value.ownBlock] at hj
  · rw [h1] at hj; simp [Value.ownBlock] at hj; omega
theorem own_lowerD {w : World} {base b2 : Nat} {e : TypeId} {v : Value} {n : Nat} {xs : List Value} (h : w.ownsRow base e 1 v n xs) (hb : b2 ≤ base) : w.ownsRow b2 e 1 v n xs := by
  obtain ⟨h1, h2⟩ := h
  refine ⟨h1, ?_⟩
  rcases h2 with h2 | ⟨g, cap, cur, a, b, c⟩
  · exact .inl h2
  · exact .inr ⟨g, cap, cur, a, Nat.le_trans hb b, c⟩
theorem own_later6 {w : World} {base : Nat} {e : TypeId} {v : Value} {n : Nat} {xs : List Value} {o : Obj} (h : w.ownsRow base e 1 v n xs) : (w.alloc o).ownsRow base e 1 v n xs := own_laterD h ((Below.refl _ _).alloc (Nat.le_refl _) o)
theorem bs_lits (w : World) (X : List Int) (hm : X.length ≤ maxLen) : Bs (w.alloc (.cells (u8s X).toArray 5)) (.slice (some ⟨w.heap.size, 0, none⟩) X.length X.length) X := by
  have B := Blk.new w (u8s X) 5 w.heap.size rfl
  exact B.bs rfl hm
/-- a new block of bytes as a row of one's own -/
theorem own_lits (w : World) (X : List Int) (n base : Nat) (hn : X.length = n) (hb : base ≤ w.heap.size) (hm : n ≤ maxLen) : (w.alloc (.cells (u8s X).toArray 5)).ownsRow base 5 1 (.slice (some ⟨w.heap.size, 0, none⟩) n n) n (u8s X) := by
  subst hn
  refine ⟨by simp, .inr ⟨w.heap.size, X.length, (u8s X).toArray, rfl, hb, ?_, Nat.le_refl _, hm, ?_⟩⟩
  · show (w.heap.push _)[w.heap.size]? = _; simp
  · simp
    exact List.take_of_length_le (by simp [u8s])
end Go.Proofs.Ytnkipgbnnhahbaa
