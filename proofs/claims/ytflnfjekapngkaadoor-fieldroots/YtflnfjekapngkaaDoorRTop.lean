/- The reference's Top: 2^384. -/
import Derived.Test.YtflnfjekapngkaaDoorRows
import Derived.Test.YtflnfjekapngkaaDoorNum
namespace Go.Proofs.YtflnfjekapngkaaDoor
open Go.RowKit

theorem top_num (w : World) (t : TypeId) : NumIs (w.alloc (.cells (us [0, 0, 0, 0, 0, 0, 0, 0, 0, 0, 0, 0, 1]).toArray t)) (.slice (some ⟨w.heap.size, 0, none⟩) 13 13) (18446744073709551616 ^ 6) := by
  have B := Blk.new w (us [0, 0, 0, 0, 0, 0, 0, 0, 0, 0, 0, 0, 1]) t w.heap.size rfl
  refine ⟨[0, 0, 0, 0, 0, 0, 0, 0, 0, 0, 0, 0, 1], .inr ⟨w.heap.size, 13, rfl, Nat.le_refl _, by unfold maxLen; omega, B.lt, fun j hj => B.cell j _ (us_get _ j hj)⟩, ?_, ?_, ?_⟩
  · intro j
    match j with
    | 0 => decide
    | 1 => decide
    | 2 => decide
    | 3 => decide
    | 4 => decide
    | 5 => decide
    | 6 => decide
    | 7 => decide
    | 8 => decide
    | 9 => decide
    | 10 => decide
    | 11 => decide
    | 12 => decide
    | _ + 13 => exact ⟨by simp, by simp⟩
  · intro _; simp
  · simp only [v32, pv]; decide

set_option maxRecDepth 100000 in
theorem top_any (w : World) :
    Calls Tryd.prog 51 #[] w fun e w' => ∃ v', e = .returned v' ∧ NumIs w' v' (18446744073709551616 ^ 6) ∧ Below w.heap.size w w' := by
  have h := top_num w 22
  go_enter Tryd.func51, Tryd.ntmps51
  go_wp2
  go_ret
  exact ⟨_, rfl, h, (Below.refl _ _).alloc (Nat.le_refl _) _⟩
end Go.Proofs.YtflnfjekapngkaaDoor
