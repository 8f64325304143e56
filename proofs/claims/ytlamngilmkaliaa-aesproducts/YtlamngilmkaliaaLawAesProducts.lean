/- The law AesProducts answers true: the product of any two bytes, either way round. -/
import Derived.Test.YtlamngilmkaliaaRows
import Derived.Test.YtlamngilmkaliaaAeCodeP
import Derived.Test.YtlamngilmkaliaaAeProd
import Derived.Test.YtlamngilmkaliaaAeComm
import Derived.Deep.RegionHeld3
import Derived.Deep.DeepCutAuto
import Derived.Deep.DeepFit
namespace Go.Proofs.Ytlamngilmkaliaa
open Go.RowKit

theorem con_ProductC {w : World} :
    Calls Try.prog 9 #[.int .u8 87, .int .u8 131] w fun e w' => e = .returned (.int .u8 193) ∧ Below w.heap.size w w' := by
  refine (con_Product (x := 87) (y := 131) ⟨by decide, by decide⟩ ⟨by decide, by decide⟩).mono ?_
  rintro e w' ⟨rfl, hb⟩
  exact ⟨by rw [show prdN (87 : Int).toNat (131 : Int).toNat = 193 by decide +kernel]; rfl, hb⟩
theorem con_ProductN {a b c : Nat} {w : World} (ha : a < 256) (hb : b < 256) (h : prdN a b = c) :
    Calls Try.prog 9 #[.int .u8 (a : Int), .int .u8 (b : Int)] w fun e w' => e = .returned (.int .u8 (c : Int)) ∧ Below w.heap.size w w' := by
  subst h
  exact con_Product ⟨by omega, by omega⟩ ⟨by omega, by omega⟩
theorem r9_ProductN {a b c : Nat} {w : World} (ha : a < 256) (hb : b < 256) (h : prdN a b = c) :
    Calls Try.prog 10 #[.int .u8 (a : Int), .int .u8 (b : Int)] w fun e w' => e = .returned (.int .u8 (c : Int)) ∧ w' = w := by
  subst h
  exact r9_Product ha hb

set_option maxHeartbeats 1000000 in
theorem law_aesProducts (x y : Int) (w : World) (fx : 0 ≤ x ∧ x < 256) (fy : 0 ≤ y ∧ y < 256) :
    Calls Try.prog 3 #[.int .u8 x, .int .u8 y] w fun e w' => e = .returned (.bool true) ∧ Below w.heap.size w w' := by
  obtain ⟨a, rfl⟩ := Int.eq_ofNat_of_zero_le fx.1
  obtain ⟨b, rfl⟩ := Int.eq_ofNat_of_zero_le fy.1
  have ha : a < 256 := by omega
  have hb : b < 256 := by omega
  clear fx fy
  obtain ⟨c, hc⟩ : ∃ c, prdN a b = c := ⟨_, rfl⟩
  have HC : Hid (prdN a b = c) := hc
  have HD : Hid (prdN b a = c) := by show _ = _; rw [prd_comm hb ha]; exact hc
  clear hc
  go_enter Try.func3, Try.ntmps3
  go_wp2_with fail
  refine (con_ProductN ha hb HC.out).mono ?_
  rintro e w1 ⟨rfl, h1⟩
  go_wp2_with fail
  refine con_ProductC.mono ?_
  rintro e w2 ⟨rfl, h2⟩
  replace h1 := below_step h1 h2
  clear h2
  go_wp2_with fail
  refine (r9_ProductN ha hb HC.out).mono ?_
  rintro e w3 ⟨rfl, rfl⟩
  go_wp2_with fail
  refine (con_ProductN hb ha HD.out).mono ?_
  rintro e w4 ⟨rfl, h2⟩
  replace h1 := below_step h1 h2
  clear h2
  go_wp2_with fail
  go_ret
  exact ⟨rfl, h1⟩
end Go.Proofs.Ytlamngilmkaliaa
