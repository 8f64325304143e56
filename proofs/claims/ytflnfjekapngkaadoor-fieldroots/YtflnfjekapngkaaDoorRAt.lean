/- The reference's at: a digit, 0 above all. -/
import Derived.Test.YtflnfjekapngkaaDoorRows
import Derived.Test.YtflnfjekapngkaaDoorNum
namespace Go.Proofs.YtflnfjekapngkaaDoor
open Go.RowKit

set_option maxRecDepth 100000 in
theorem at_any (v : Value) (D : List Int) (i : Nat) (w : World) (h : Sl w v D) :
    Calls Tryd.prog 56 #[v, .int .i64 i] w fun e w' => e = .returned (.int .u64 (D.getD i 0)) ∧ w' = w := by
  obtain ⟨ao, cap, rfl, m1, k1, f1⟩ := h.form
  unfold maxLen at m1
  obtain ⟨d, hd⟩ : ∃ d, D.getD i 0 = d := ⟨_, rfl⟩
  by_cases hi : i < D.length
  · obtain ⟨b, rfl, hb, hc⟩ := f1 (by omega)
    have x := hc i hi
    rw [hd] at x ⊢
    clear f1 hc hd
    have g1 : (i : Int) < (D.length : Int) := by omega
    have g2 : (0 : Int) ≤ (i : Int) := by omega
    go_enter Tryd.func56, Tryd.ntmps56
    go_wp2
    go_ret
    exact ⟨rfl, rfl⟩
  · have e : d = 0 := by rw [← hd]; exact getD_none D i (by omega)
    rw [hd, e]
    clear f1 hd e
    have g1 : ¬ (i : Int) < (D.length : Int) := by omega
    go_enter Tryd.func56, Tryd.ntmps56
    go_wp2
    go_ret
    exact ⟨rfl, rfl⟩
end Go.Proofs.YtflnfjekapngkaaDoor
