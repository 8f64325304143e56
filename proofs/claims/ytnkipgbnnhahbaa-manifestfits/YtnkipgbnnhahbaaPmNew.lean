/- A slice that lies in a block of its own. -/
import Derived.Test.YtnkipgbnnhahbaaByt
namespace Go.Proofs.Ytnkipgbnnhahbaa
open Go.RowKit
/-- what v holds lies in no block of w -/
def NewV (w : World) (v : Value) : Prop := ∀ (a : Addr) (n c : Nat), v = .slice (some a) n c → 0 < n → w.heap.size ≤ a.block
theorem NewV.of_own {w w' : World} {e : TypeId} {size : Nat} {v : Value} {n : Nat} {xs : List Value} (h : w'.ownsRow w.heap.size e size v n xs) : NewV w v := fun a m c e _ => by
  rcases h.2 with ⟨h1, _⟩ | ⟨g, cap, cur, h1, h2, _⟩
  · rw [h1] at e
    cases e
  · rw [h1] at e
    simp only [Value.slice.injEq, Option.some.injEq] at e
    rw [← e.1]
    exact h2
theorem NewV.upN {w w' : World} {v : Value} (h : NewV w' v) (hs : w.heap.size ≤ w'.heap.size) : NewV w v := fun a n c e h0 => Nat.le_trans hs (h a n c e h0)
end Go.Proofs.Ytnkipgbnnhahbaa
