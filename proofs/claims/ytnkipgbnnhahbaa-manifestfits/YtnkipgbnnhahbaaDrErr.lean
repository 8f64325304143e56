/- Errors of Parse as they lie. -/
import Derived.Test.YtnkipgbnnhahbaaDrDep
import Derived.Test.YtnkipgbnnhahbaaDrWrN
import Derived.Test.YtnkipgbnnhahbaaRows
import Derived.Deep.WholeRow
import Derived.Deep.RegionHeld3
import Derived.Deep.DeepCutAuto
import Derived.Deep.DeepFit
namespace Go.Proofs.Ytnkipgbnnhahbaa
open Go.RowKit
/-- an error of Parse as it lies: itself, or as a Spot -/
def ErAt (w : World) (c p : Nat) (er : Value) : Prop := (c = 2 ∧ er = .iface 38 (.int .i64 2)) ∨ (¬ c = 2 ∧ ∃ g, er = .iface 77 (.pointer (some ⟨g, 0, none⟩)) ∧ Blk w g [.int .i64 (p : Int), .iface 38 (.int .i64 (c : Int))])
/-- a Spot's block is new -/
def ErFresh (n : Nat) (er : Value) : Prop := ∀ g, er = .iface 77 (.pointer (some ⟨g, 0, none⟩)) → n ≤ g
theorem ErAt.later {w w' : World} {c p : Nat} {er : Value} (h : ErAt w c p er) (hb : Below w.heap.size w w') : ErAt w' c p er := by
  rcases h with h | ⟨h1, g, h2, h3⟩
  · exact .inl h
  · exact .inr ⟨h1, g, h2, h3.later hb⟩
theorem ErAt.spot {w : World} {c p : Nat} {er : Value} (h : ErAt w c p er) (hc : ¬ c = 2) : ∃ g, er = .iface 77 (.pointer (some ⟨g, 0, none⟩)) ∧ Blk w g [.int .i64 (p : Int), .iface 38 (.int .i64 (c : Int))] := by
  rcases h with ⟨h1, _⟩ | ⟨_, h⟩
  · exact absurd h1 hc
  · exact h
theorem ErAt.long {w : World} {p : Nat} {er : Value} (h : ErAt w 2 p er) : er = .iface 38 (.int .i64 2) := by
  rcases h with ⟨_, h⟩ | ⟨h, _⟩
  · exact h
  · exact absurd rfl h
/-- bytes in a block that was not there before -/
def FreshD (w w' : World) (v : Value) (X : List Int) : Prop := ∃ g o cap cur, v = .slice (some ⟨g, o, none⟩) X.length cap ∧ X.length ≤ cap ∧ cap ≤ maxLen ∧ w.heap.size ≤ g ∧ Blk w' g cur ∧ ∀ j, j < X.length → cur[o + j]? = some (.int .u8 (X.getD j 0))
theorem FreshD.bs {w w' : World} {v : Value} {X : List Int} (h : FreshD w w' v X) : Bs w' v X := by
  obtain ⟨g, o, cap, cur, rfl, h1, h2, h3, h4, h5⟩ := h
  exact ⟨_, cap, rfl, h2, h1, fun _ => ⟨g, o, rfl, h4.lt, fun j hj => h4.cell _ _ (h5 j hj)⟩⟩
/-- what Write tells -/
def WrAt (w w' : World) (T : Tl) (v er : Value) : Prop := (wrN T = 0 → FreshD w w' v (bytesT T) ∧ er = .nilIface) ∧ (¬ wrN T = 0 → Bs w' v [] ∧ er = .iface 38 (.int .i64 ((wrN T : Nat) : Int)))
theorem wrN_bd (T : Tl) : wrN T ≤ 9 := by
  unfold wrN
  split
  · split
    · decide
    · split <;> decide
  · decide
theorem wr_fine {T : Tl} (h1 : fineT T = true) (h2 : depT T ≤ 16) (h3 : (bytesT T).length ≤ 1048576) : wrN T = 0 := by
  unfold wrN
  rw [if_pos h1, if_neg (by omega), if_neg (by omega)]
/-- an element without anything in it -/
def nilT : Tl := .mk 0 0 false [] []
theorem nilT_at (w : World) : TlAt w nilT [.int .i64 0, .int .i64 0, .bool false, .slice none 0 0, .slice none 0 0] := by
  unfold nilT
  rw [TlAt]
  exact ⟨.slice none 0 0, none, 0, rfl, ⟨none, 0, rfl, by decide, by decide, fun h => by simp at h⟩, by simp, by decide, fun h => by simp at h⟩
theorem nilT_wf : WfT nilT := by
  unfold nilT
  rw [WfT, WfL]
  exact ⟨by decide, by decide, fun j => by simp, trivial⟩
end Go.Proofs.Ytnkipgbnnhahbaa
