/- The document's prime. -/
import Derived.Test.YtdikjabghhhhfaaDoorRows
import Derived.Test.YtdikjabghhhhfaaDoorFBase
import Derived.Test.YtdikjabghhhhfaaDoorRefB
import Derived.Test.YtdikjabghhhhfaaDoorShape
namespace Go.Proofs.YtdikjabghhhhfaaDoor
open Go.RowKit

theorem p_num (w : World) (t : TypeId) : NumIs (w.alloc (.cells (us [4294967295, 0, 0, 4294967295, 4294967294, 4294967295, 4294967295, 4294967295, 4294967295, 4294967295, 4294967295, 4294967295]).toArray t)) (.slice (some ⟨w.heap.size, 0, none⟩) 12 12) PP := by
  have B := Blk.new w (us [4294967295, 0, 0, 4294967295, 4294967294, 4294967295, 4294967295, 4294967295, 4294967295, 4294967295, 4294967295, 4294967295]) t w.heap.size rfl
  refine ⟨[4294967295, 0, 0, 4294967295, 4294967294, 4294967295, 4294967295, 4294967295, 4294967295, 4294967295, 4294967295, 4294967295], .inr ⟨w.heap.size, 12, rfl, Nat.le_refl _, by unfold maxLen; omega, B.lt, fun j hj => B.cell j _ (us_get _ j hj)⟩, ?_, ?_, ?_⟩
  · intro j
    match j with
    | 0 => decide
    | 1 => decide
    | 2 => decide
    | 3 => decide
    | 4 => decide
    | 5 => decide
    | 6 => decide
    | 7 => decide
    | 8 => decide
    | 9 => decide
    | 10 => decide
    | 11 => decide
    | _ + 12 => exact ⟨by simp, by simp⟩
  · intro _; simp
  · simp only [v32, pv]; decide

set_option maxRecDepth 100000 in
theorem p_any {w : World} :
    Calls Tryd.prog 30 #[] w fun e w' => ∃ v', e = .returned v' ∧ NumIs w' v' PP ∧ Below w.heap.size w w' := by
  have h := p_num w 22
  go_enter Tryd.func30, Tryd.ntmps30
  go_wp2
  go_ret
  exact ⟨_, rfl, h, (Below.refl _ _).alloc (Nat.le_refl _) _⟩
end Go.Proofs.YtdikjabghhhhfaaDoor
