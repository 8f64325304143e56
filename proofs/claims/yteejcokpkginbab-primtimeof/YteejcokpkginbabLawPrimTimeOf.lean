/- The law PrimTimeOf answers true. -/
import Derived.Test.YteejcokpkginbabRows
import Derived.Test.YteejcokpkginbabPrTime
import Derived.Test.YteejcokpkginbabPrTimeOf
import Derived.Test.YteejcokpkginbabPmTofR
import Derived.Test.YteejcokpkginbabPmLawT
import Derived.Test.YteejcokpkginbabPmLaw
import Derived.Deep.WholeRow
import Derived.Deep.RegionHeld3
import Derived.Deep.DeepCutAuto
import Derived.Deep.DeepFit
namespace Go.Proofs.Yteejcokpkginbab
open Go.RowKit

set_option linter.unusedSimpArgs false in
set_option maxRecDepth 100000 in
set_option maxHeartbeats 2000000 in
theorem law_primTimeOf (x : Int) (w : World) (hx : -9223372036854775808 ≤ x ∧ x < 9223372036854775808) :
    Calls Try.prog 7 #[.int .i64 x] w fun e w' => e = .returned (.bool true) ∧ Below w.heap.size w w' := by
  go_enter Try.func7, Try.ntmps7
  go_wp2_with fail
  refine (con_TimeOf (by omega)).mono ?_
  rintro e w2 ⟨hok, hbad⟩
  cases hp : timeOf x with
  | ok n =>
    obtain ⟨a, X⟩ := n
    obtain ⟨v2, rfl, x2, -, hb⟩ := hok a X hp
    have bel := hb
    clear hok hbad hb
    go_wp2_with fail
    refine (r13_TimeOf (by omega)).mono ?_
    rintro e w3 ⟨hok, -⟩
    obtain ⟨v3, rfl, x3, hb⟩ := hok a X hp
    replace x2 := x2.later hb
    replace bel := below_step bel hb
    clear hok hb
    go_wp2_with fail
    refine (con_TimeOf (x := 0) (by omega)).mono ?_
    rintro e w9 ⟨hok, -⟩
    obtain ⟨v9, rfl, x9, -, hb⟩ := hok _ _ tof_1970
    replace bel := below_step bel hb
    replace x2 := x2.later hb
    have hn := x2
    replace x2 := conv_any x2
    replace x3 := conv_any (x3.later hb)
    have q0 := nil_ne13
    have q1 := nil_eq13
    have q2 : strOfNums [55, 48, 48, 49, 48, 49, 48, 48, 48, 48, 48, 48, 90] = { data := #[55, 48, 48, 49, 48, 49, 48, 48, 48, 48, 48, 48, 90] } := rfl
    clear hb hok
    go_wp2_with fail
    refine con_Code0.mono ?_
    rintro e w4 ⟨rfl, hb⟩
    replace bel := below_step bel hb
    replace x9 := conv_any (x9.later hb)
    rw [q2] at x9
    clear q2 x2 x3
    replace hn := hn.later hb
    obtain ⟨k1, k3, k4⟩ := timeOf_back hp
    clear hb
    go_wp2_with fail
    refine (con_Time hn k3 (by omega)).mono ?_
    rintro e w5 ⟨hok, -⟩
    obtain ⟨rfl, hb⟩ := hok _ k1
    replace bel := below_step bel hb
    clear hok hb k1 k3 hp hn x9
    go_wp2_with fail
    go_ret
    exact ⟨rfl, bel⟩
  | error c =>
    obtain ⟨ao, cap, rfl, hb⟩ := hbad c hp
    have bel := hb
    clear hok hbad hb
    go_wp2_with fail
    refine (r13_TimeOf (by omega)).mono ?_
    rintro e w3 ⟨-, hbad⟩
    obtain ⟨rfl, hb⟩ := hbad c hp
    replace bel := below_step bel hb
    have hc := timeOf_bad hp
    clear hbad hb
    go_wp2_with fail
    refine (con_TimeOf (x := 0) (by omega)).mono ?_
    rintro e w9 ⟨hok, -⟩
    obtain ⟨v9, rfl, x9, -, hb⟩ := hok _ _ tof_1970
    replace bel := below_step bel hb
    have x2 := conv_zero w9 ao cap
    have x3 := conv_zero w9 none 0
    have q0 := nil_ne13
    have q1 := nil_eq13
    have q2 : strOfNums [55, 48, 48, 49, 48, 49, 48, 48, 48, 48, 48, 48, 90] = { data := #[55, 48, 48, 49, 48, 49, 48, 48, 48, 48, 48, 48, 90] } := rfl
    clear hb hok
    go_wp2_with fail
    refine (con_CodeC (by omega)).mono ?_
    rintro e w4 ⟨rfl, hb⟩
    replace bel := below_step bel hb
    replace x9 := conv_any (x9.later hb)
    rw [q2] at x9
    clear q2 x2 x3
    have q3 : ¬ (c : Int) = 0 := by omega
    clear hb hp
    go_wp2_with fail
    go_ret
    exact ⟨rfl, bel⟩
end Go.Proofs.Yteejcokpkginbab
