/- The program's Product and Substitute. -/
import Derived.Test.YtlamngilmkaliaaRows
import Derived.Test.YtlamngilmkaliaaAeCodeL
import Derived.Test.YtlamngilmkaliaaAeLaneP
import Derived.Deep.WholeRow
import Derived.Deep.RegionHeld3
import Derived.Deep.DeepCutAuto
import Derived.Deep.DeepFit
namespace Go.Proofs.Ytlamngilmkaliaa
open Go.RowKit

set_option maxRecDepth 100000 in
theorem con_Product {x y : Int} {w : World} (fx : 0 ≤ x ∧ x < 256) (fy : 0 ≤ y ∧ y < 256) :
    Calls Try.prog 9 #[.int .u8 x, .int .u8 y] w fun e w' => e = .returned (.int .u8 ((prdN x.toNat y.toNat : Nat) : Int)) ∧ Below w.heap.size w w' := by
  have HL : Hid _ := Ln.one fx
  have HM : Hid _ := Ln.one fy
  have HP : Hid (pL x.toNat y.toNat = prdN x.toNat y.toNat) := pL_prd (by omega) (by omega)
  have w1 : IntKind.u64.wrap x = x := by rw [IntKind.wrap_u64]; omega
  have w3 : IntKind.u64.wrap y = y := by rw [IntKind.wrap_u64]; omega
  go_enter Try.func9, Try.ntmps9
  go_wp2_with fail
  refine (con_products HL.out HM.out).mono ?_
  rintro e w0 ⟨c, rfl, hc, rfl⟩
  have w2 : IntKind.u8.wrap c = ((prdN x.toNat y.toNat : Nat) : Int) := by rw [← HP.out]; exact hc.low
  clear hc
  go_wp2_with fail
  go_ret
  exact ⟨rfl, Below.refl _ _⟩

set_option maxRecDepth 100000 in
theorem con_Substitute {x : Int} {w : World} (fx : 0 ≤ x ∧ x < 256) :
    Calls Try.prog 11 #[.int .u8 x] w fun e w' => e = .returned (.int .u8 ((subN x.toNat : Nat) : Int)) ∧ Below w.heap.size w w' := by
  have HL : Hid _ := Ln.one fx
  have w1 : IntKind.u64.wrap x = x := by rw [IntKind.wrap_u64]; omega
  go_enter Try.func11, Try.ntmps11
  go_wp2_with fail
  refine (con_substitutes HL.out).mono ?_
  rintro e w0 ⟨c, rfl, hc, bel⟩
  have w2 : IntKind.u8.wrap c = ((subN x.toNat : Nat) : Int) := hc.low
  clear hc
  go_wp2_with fail
  go_ret
  exact ⟨rfl, bel⟩
end Go.Proofs.Ytlamngilmkaliaa
