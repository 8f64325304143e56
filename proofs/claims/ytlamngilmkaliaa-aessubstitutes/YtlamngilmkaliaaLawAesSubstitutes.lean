/- The law AesSubstitutes answers true: any byte's substitute. -/
import Derived.Test.YtlamngilmkaliaaRows
import Derived.Test.YtlamngilmkaliaaAeCodeP
import Derived.Test.YtlamngilmkaliaaAeProd
import Derived.Deep.RegionHeld3
import Derived.Deep.DeepCutAuto
import Derived.Deep.DeepFit
namespace Go.Proofs.Ytlamngilmkaliaa
open Go.RowKit

theorem con_SubstituteC {w : World} :
    Calls Try.prog 11 #[.int .u8 0] w fun e w' => e = .returned (.int .u8 99) ∧ Below w.heap.size w w' := by
  refine (con_Substitute (x := 0) ⟨by decide, by decide⟩).mono ?_
  rintro e w' ⟨rfl, hb⟩
  exact ⟨by rw [show subN (0 : Int).toNat = 99 by decide +kernel]; rfl, hb⟩
theorem con_SubstituteN {a c : Nat} {w : World} (ha : a < 256) (h : subN a = c) :
    Calls Try.prog 11 #[.int .u8 (a : Int)] w fun e w' => e = .returned (.int .u8 (c : Int)) ∧ Below w.heap.size w w' := by
  subst h
  exact con_Substitute ⟨by omega, by omega⟩
theorem r9_SubstituteN {a c : Nat} {w : World} (ha : a < 256) (h : subN a = c) :
    Calls Try.prog 12 #[.int .u8 (a : Int)] w fun e w' => e = .returned (.int .u8 (c : Int)) ∧ w' = w := by
  subst h
  exact r9_Substitute ha

set_option maxHeartbeats 1000000 in
theorem law_aesSubstitutes (x : Int) (w : World) (fx : 0 ≤ x ∧ x < 256) :
    Calls Try.prog 4 #[.int .u8 x] w fun e w' => e = .returned (.bool true) ∧ Below w.heap.size w w' := by
  obtain ⟨a, rfl⟩ := Int.eq_ofNat_of_zero_le fx.1
  have ha : a < 256 := by omega
  clear fx
  obtain ⟨c, hc⟩ : ∃ c, subN a = c := ⟨_, rfl⟩
  have HC : Hid (subN a = c) := hc
  clear hc
  go_enter Try.func4, Try.ntmps4
  go_wp2_with fail
  refine con_SubstituteC.mono ?_
  rintro e w1 ⟨rfl, h1⟩
  go_wp2_with fail
  refine (con_SubstituteN ha HC.out).mono ?_
  rintro e w2 ⟨rfl, h2⟩
  replace h1 := below_step h1 h2
  clear h2
  go_wp2_with fail
  refine (r9_SubstituteN ha HC.out).mono ?_
  rintro e w3 ⟨rfl, rfl⟩
  go_wp2_with fail
  go_ret
  exact ⟨rfl, h1⟩
end Go.Proofs.Ytlamngilmkaliaa
