/- The program's own small helpers of layer 13: noughts ahead are left out, bytes are copied; a byte behind a number. (Plain part.) -/
import Derived.Test.YtnkipgbnnhahbaaPmCut
import Derived.Test.YtnkipgbnnhahbaaPmNew
import Derived.Test.YtnkipgbnnhahbaaRows
import Derived.Deep.OwnRows
import Derived.Deep.AppendLies
import Derived.Great.BuildSlice
import Derived.Laws.BitsAllLaws
import Derived.Deep.WholeRow
import Derived.Deep.RegionHeld3
import Derived.Deep.DeepCutAuto
import Derived.Deep.DeepFit
namespace Go.Proofs.Ytnkipgbnnhahbaa
open Go.RowKit
/-- a slice's length -/
def lenV : Value → Nat
  | .slice _ n _ => n
  | _ => 0
theorem newV_own {w w' : World} {e : TypeId} {v : Value} {n : Nat} {xs : List Value} (h : w'.ownsRow w.heap.size e 1 v n xs) : NewV w v := fun a m c hv _ => own_geM (j := a.block) h (by rw [hv]; rfl)
/-- bytes that are answered in a block of their own, or an error's code -/
def RetB (w : World) (r : Except Nat (List Int)) (e : Ending) (w' : World) : Prop := (∀ n, r = .ok n → ∃ v' : Value, e = .returned (.tuple #[v', .nilIface]) ∧ Bs w' v' n ∧ NewV w v' ∧ Below w.heap.size w w') ∧ (∀ c, r = .error c → ∃ (ao : Option Addr) (cap : Nat), e = .returned (.tuple #[.slice ao 0 cap, .iface 38 (.int .i64 (c : Int))]) ∧ Below w.heap.size w w')
theorem RetB.ok {w w' : World} {r : Except Nat (List Int)} {n : List Int} {v : Value} (h : r = .ok n) (hb : Bs w' v n) (hn : NewV w v) (bel : Below w.heap.size w w') : RetB w r (.returned (.tuple #[v, .nilIface])) w' :=
  ⟨fun m hm => (by rw [h] at hm; cases hm; exact ⟨v, rfl, hb, hn, bel⟩), fun c hc => (by rw [h] at hc; cases hc)⟩
theorem RetB.bad {w w' : World} {r : Except Nat (List Int)} {c : Nat} {ao : Option Addr} {cap : Nat} (h : r = .error c) (bel : Below w.heap.size w w') : RetB w r (.returned (.tuple #[.slice ao 0 cap, .iface 38 (.int .i64 (c : Int))])) w' :=
  ⟨fun m hm => (by rw [h] at hm; cases hm), fun c2 hc => (by rw [h] at hc; cases hc; exact ⟨ao, cap, rfl, bel⟩)⟩
theorem own_laterP {w w' : World} {base : Nat} {e : TypeId} {v : Value} {n : Nat} {xs : List Value} (h : w.ownsRow base e 1 v n xs) (hb : Below w.heap.size w w') : w'.ownsRow base e 1 v n xs := by
  obtain ⟨hl, h⟩ := h
  rcases h with h | ⟨g, cap, cur, h1, h2, h3, h4⟩
  · exact ⟨hl, .inl h⟩
  · exact ⟨hl, .inr ⟨g, cap, cur, h1, h2, by rw [hb.block g (Array.getElem?_eq_some_iff.1 h3).1]; exact h3, h4⟩⟩
end Go.Proofs.Ytnkipgbnnhahbaa
