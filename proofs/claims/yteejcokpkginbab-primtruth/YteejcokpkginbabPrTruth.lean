/- The program's Truth of layer 13. -/
import Derived.Test.YteejcokpkginbabRows
import Derived.Test.YteejcokpkginbabPmCut
import Derived.Test.YteejcokpkginbabPmNew
import Derived.Deep.OwnRows
import Derived.Deep.AppendLies
import Derived.Great.BuildSlice
import Derived.Deep.WholeRow
import Derived.Deep.RegionHeld3
import Derived.Deep.DeepCutAuto
import Derived.Deep.DeepFit
namespace Go.Proofs.Yteejcokpkginbab
open Go.RowKit

/-- a truth that is answered, or an error's code -/
def RetT (w : World) (B : List Int) (e : Ending) (w' : World) : Prop := ((B = [0] ∨ B = [255]) → e = .returned (.tuple #[.bool (decide (B = [255])), .nilIface]) ∧ Below w.heap.size w w') ∧ (¬ (B = [0] ∨ B = [255]) → e = .returned (.tuple #[.bool false, .iface 33 (.int .i64 7)]) ∧ Below w.heap.size w w')
theorem RetT.no {w : World} {B : List Int} (h : ¬ (B = [0] ∨ B = [255])) : RetT w B (.returned (.tuple #[.bool false, .iface 33 (.int .i64 7)])) w := ⟨fun k => absurd k h, fun _ => ⟨rfl, Below.refl _ _⟩⟩
theorem RetT.is0 {w : World} : RetT w [0] (.returned (.tuple #[.bool false, .nilIface])) w := ⟨fun _ => ⟨rfl, Below.refl _ _⟩, fun h => absurd (.inl rfl) h⟩
theorem RetT.is1 {w : World} : RetT w [255] (.returned (.tuple #[.bool true, .nilIface])) w := ⟨fun _ => ⟨rfl, Below.refl _ _⟩, fun h => absurd (.inr rfl) h⟩
set_option linter.unusedSimpArgs false in
set_option maxRecDepth 100000 in
set_option maxHeartbeats 1000000 in
theorem c13_Truth {v : Value} {B : List Int} {w : World} (hv : Bs w v B) (b : byt B) :
    Calls Try.prog 12 #[v] w (RetT w B) := by
  have HB : Hid (byt B) := b
  obtain ⟨ao, cap, rfl, h1, h2, h3⟩ := hv
  unfold maxLen at h1
  clear b
  by_cases c0 : B.length = 1
  rotate_left
  · have H : Hid (¬ (B = [0] ∨ B = [255])) := by
      rintro (k | k) <;> exact c0 (by rw [k]; rfl)
    have g0 : ¬ (B.length : Int) = 1 := by omega
    clear h3
    go_enter Try.func12, Try.ntmps12
    go_wp2_with fail
    refine bodyPost_ret (results_tmp2 rfl _ _ _) rfl ?_
    exact RetT.no H.out
  obtain ⟨p, rfl⟩ : ∃ p, B = [p] := by
    match B, c0 with
    | [p], _ => exact ⟨p, rfl⟩
  obtain ⟨g, o, rfl, lg, hc⟩ := h3 (by show 0 < 1; omega)
  have x0 := hc 0 (by show 0 < 1; omega)
  rw [Nat.add_zero] at x0
  replace x0 : w.cell? ⟨g, o, none⟩ = some (.int .u8 p) := x0
  clear h3 hc c0
  by_cases c1 : p = 0
  · subst c1
    go_enter Try.func12, Try.ntmps12
    go_wp2_with fail
    refine bodyPost_ret (results_tmp2 rfl _ _ _) rfl ?_
    exact RetT.is0
  by_cases c2 : p = 255
  · subst c2
    go_enter Try.func12, Try.ntmps12
    go_wp2_with fail
    refine bodyPost_ret (results_tmp2 rfl _ _ _) rfl ?_
    exact RetT.is1
  · have H : Hid (¬ ([p] = [0] ∨ [p] = [255])) := by
      rintro (k | k)
      · exact c1 (by simpa using k)
      · exact c2 (by simpa using k)
    have d1 : (p == 0) = false := by rw [beq_eq_false_iff_ne]; exact c1
    have d2 : (p == 255) = false := by rw [beq_eq_false_iff_ne]; exact c2
    have d3 : (p != 0) = true := by rw [bne, d1]; rfl
    have d4 : (p != 255) = true := by rw [bne, d2]; rfl
    go_enter Try.func12, Try.ntmps12
    go_wp2_with fail
    refine bodyPost_ret (results_tmp2 rfl _ _ _) rfl ?_
    exact RetT.no H.out
theorem con_Truth {v : Value} {B : List Int} {w : World} (hv : Bs w v B) (b : byt B) :
    Calls Try.prog 12 #[v] w fun e w' => ((B = [0] ∨ B = [255]) → e = .returned (.tuple #[.bool (decide (B = [255])), .nilIface]) ∧ Below w.heap.size w w') ∧ (¬ (B = [0] ∨ B = [255]) → e = .returned (.tuple #[.bool false, .iface 33 (.int .i64 7)]) ∧ Below w.heap.size w w') := (c13_Truth hv b).mono (fun _ _ h => h)
end Go.Proofs.Yteejcokpkginbab
