/- modp's minusInverse: what times an odd limb is -1, by Newton's steps. -/
import Derived.Test.YtpenapcgpplghabRows
import Derived.Test.YtpenapcgpplghabMNum
namespace Go.Proofs.Ytpenapcgpplghab
open Go.RowKit

set_option maxRecDepth 100000 in
set_option maxHeartbeats 400000 in
theorem inv_any (o : Int) (w : World) (ho : o % 2 = 1) :
    Calls Try.prog 16 #[.int .u64 o] w fun e w' => ∃ i : Int, e = .returned (.int .u64 i) ∧ 0 ≤ i ∧ i < 18446744073709551616 ∧ (i * o) % 18446744073709551616 = 18446744073709551615 ∧ w' = w := by
  have S0 : Hid (twoPow 0 ∣ o * 1 - 1) := by
    show twoPow 0 ∣ _
    refine ⟨(o - 1) / 2, ?_⟩
    rw [show twoPow 0 = 2 from rfl]; omega
  clear ho
  go_enter Try.func16, Try.ntmps16
  go_wp2
  go_loop [3, 4] (fun g i => ∃ (k : Nat) (G : Int), k ≤ 6 ∧ i = .int .i64 k ∧ g = .int .u64 G ∧ Hid (twoPow k ∣ o * G - 1)) (fun _ i => 6 - (intOf i).toNat)
  case atStart => exact ⟨0, 1, by omega, rfl, rfl, S0⟩
  case round =>
    obtain ⟨k, G, hk, rfl, rfl, HG⟩ := hrel
    by_cases hlt : k < 6
    · have st : Hid _ := newton o G (twoPow k) (twoPow_dvd k (by omega)) HG.out
      have g1 : (k : Int) < 6 := by omega
      clear HG
      go_wp2
      go_round
      case rel => exact ⟨k + 1, _, by omega, by go_num, rfl, by
        show twoPow (k + 1) ∣ _
        rw [twoPow_succ]
        simp only [IntKind.wrap_u64]
        exact st.out⟩
      case measure => simp [intOf]; omega
    · have g1 : (6 : Int) ≤ (k : Int) := by omega
      have hk6 : k = 6 := by omega
      rw [hk6] at HG
      have E : Hid _ := newton_end o G HG.out
      have r0 : 0 ≤ (-G) % 18446744073709551616 := Int.emod_nonneg _ (by decide)
      have r1 : (-G) % 18446744073709551616 < 18446744073709551616 := Int.emod_lt_of_pos _ (by decide)
      clear HG S0
      go_wp2
      go_ret
      exact ⟨_, by simp only [IntKind.wrap_u64]; rfl, r0, r1, E.out, rfl⟩
end Go.Proofs.Ytpenapcgpplghab
