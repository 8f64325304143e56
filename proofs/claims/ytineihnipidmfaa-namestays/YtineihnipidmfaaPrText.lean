/- The program's Text of layer 13. -/
import Derived.Test.YtineihnipidmfaaRows
import Derived.Test.YtineihnipidmfaaPmNG
import Derived.Test.YtineihnipidmfaaSConv
import Derived.Deep.OwnRows
import Derived.Deep.AppendLies
import Derived.Great.BuildSlice
import Derived.Deep.WholeRow
import Derived.Deep.RegionHeld3
import Derived.Deep.DeepCutAuto
import Derived.Deep.DeepFit
namespace Go.Proofs.Ytineihnipidmfaa
open Go.RowKit

set_option linter.unusedSimpArgs false in
set_option maxRecDepth 100000 in
set_option maxHeartbeats 1000000 in
theorem con_Text {v : Value} {B : List Int} {w : World} (hv : Bs w v B) (b : byt B) :
    Calls Try.prog 33 #[v] w fun e w' => (∀ n, textP B = .ok n → e = .returned (.tuple #[.string (strOfNums n), .nilIface]) ∧ Below w.heap.size w w') ∧ (∀ c, textP B = .error c → e = .returned (.tuple #[.string (strOfNums []), .iface 34 (.int .i64 (c : Int))]) ∧ Below w.heap.size w w') := by
  have cv := conv_any hv
  have HB : Hid (byt B) := b
  obtain ⟨ao, cap, rfl, h1, h2, h3⟩ := hv
  obtain ⟨N, hN⟩ : ∃ N, B.length = N := ⟨_, rfl⟩
  have HN : Hid (B.length = N) := hN
  rw [hN] at h2 h3 cv ⊢
  have HC : Hid (∀ j, j < N → ∃ g o, ao = some ⟨g, o, none⟩ ∧ w.cell? ⟨g, o + j, none⟩ = some (.int .u8 (B.getD j 0)) ∧ g < w.heap.size) := fun j hj => by
    obtain ⟨g, o, e1, e2, e3⟩ := h3 (by omega)
    exact ⟨g, o, e1, e3 j hj, e2⟩
  unfold maxLen at h1
  clear b h3 hN
  by_cases c0 : 64 < N
  · have H : Hid (textP B = .error 2) := by show _ = _; unfold textP; rw [if_pos (by rw [HN.out]; exact c0)]
    have g0 : (64 : Int) < (N : Int) := by omega
    go_enter Try.func33, Try.ntmps33
    go_wp2_with fail
    refine bodyPost_ret (results_tmp2 rfl _ _ _) rfl ?_
    exact ⟨fun n h => (by rw [H.out] at h; cases h), fun c h => (by rw [H.out] at h; cases h; exact ⟨rfl, Below.refl _ _⟩)⟩
  have g0 : ¬ (64 : Int) < (N : Int) := by omega
  by_cases c1 : N = 0
  · have H : Hid (textP B = .error 7) := by show _ = _; unfold textP; rw [if_neg (by rw [HN.out]; exact c0), if_pos (by rw [HN.out]; exact c1)]
    have g1 : (N : Int) = 0 := by omega
    go_enter Try.func33, Try.ntmps33
    go_wp2_with fail
    refine bodyPost_ret (results_tmp2 rfl _ _ _) rfl ?_
    exact ⟨fun n h => (by rw [H.out] at h; cases h), fun c h => (by rw [H.out] at h; cases h; exact ⟨rfl, Below.refl _ _⟩)⟩
  have g1 : ¬ (N : Int) = 0 := by omega
  have H0 : Hid (textP B = if ∃ j, j < N ∧ (B.getD j 0 < 32 ∨ 126 < B.getD j 0) then .error 7 else .ok B) := by show _ = _; unfold textP; rw [HN.out, if_neg c0, if_neg c1]
  go_enter Try.func33, Try.ntmps33
  go_wp2_with fail
  go_loop [16] (fun iv => ∃ (i : Nat), i ≤ N ∧ iv = .int .i64 (i : Int) ∧ Hid (∀ j, j < i → ¬ (B.getD j 0 < 32 ∨ 126 < B.getD j 0))) (fun iv => N - (intOf iv).toNat)
  case atStart => exact ⟨0, by omega, rfl, fun j h => absurd h (by omega)⟩
  case round =>
    obtain ⟨i, hi, rfl, HE⟩ := hrel
    by_cases hil : i < N
    · have k1 : (i : Int) < (N : Int) := by omega
      have k2 : (0 : Int) ≤ (i : Int) := by omega
      have gi : IntKind.i64.wrap ((i : Int) + 1) = (i : Int) + 1 := by rw [IntKind.wrap_i64]; omega
      obtain ⟨g, o, rfl, cy, lg⟩ := HC.out i hil
      have yb := HB.out i
      obtain ⟨y, hy⟩ : ∃ y, B.getD i 0 = y := ⟨_, rfl⟩
      have HY : Hid (B.getD i 0 = y) := hy
      rw [hy] at cy yb
      clear hy
      by_cases d1 : y < 32
      · have H : Hid (textP B = .error 7) := by show _ = _; rw [H0.out, if_pos ⟨i, hil, .inl (by rw [HY.out]; exact d1)⟩]
        go_wp2_with fail
        refine bodyPost_ret (results_tmp2 rfl _ _ _) rfl ?_
        exact ⟨fun n h => (by rw [H.out] at h; cases h), fun c h => (by rw [H.out] at h; cases h; exact ⟨rfl, Below.refl _ _⟩)⟩
      by_cases d2 : 126 < y
      · have H : Hid (textP B = .error 7) := by show _ = _; rw [H0.out, if_pos ⟨i, hil, .inr (by rw [HY.out]; exact d2)⟩]
        go_wp2_with fail
        refine bodyPost_ret (results_tmp2 rfl _ _ _) rfl ?_
        exact ⟨fun n h => (by rw [H.out] at h; cases h), fun c h => (by rw [H.out] at h; cases h; exact ⟨rfl, Below.refl _ _⟩)⟩
      have HE2 : Hid (∀ j, j < i + 1 → ¬ (B.getD j 0 < 32 ∨ 126 < B.getD j 0)) := fun j hj => by
        by_cases hji : j < i
        · exact HE.out j hji
        · obtain rfl : j = i := by omega
          rw [HY.out]; omega
      go_wp2_with fail
      go_round
      case rel => exact ⟨i + 1, by omega, by go_num, HE2⟩
      case measure => simp [intOf]; omega
    · have k1 : ¬ (i : Int) < (N : Int) := by omega
      have H : Hid (textP B = .ok B) := by
        show _ = _
        rw [H0.out, if_neg (by rintro ⟨j, hj, h⟩; exact HE.out j (by omega) h)]
      go_wp2_with fail
      refine bodyPost_ret (results_tmp2 rfl _ _ _) rfl ?_
      exact ⟨fun n h => (by rw [H.out] at h; cases h; exact ⟨rfl, Below.refl _ _⟩), fun c h => (by rw [H.out] at h; cases h)⟩
end Go.Proofs.Ytineihnipidmfaa
