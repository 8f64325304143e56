/- The law PrimOidOf answers true. -/
import Derived.Test.YteejcokpkginbaaRows
import Derived.Test.YteejcokpkginbaaPrOid
import Derived.Test.YteejcokpkginbaaPrOidOf
import Derived.Test.YteejcokpkginbaaPmOidO
import Derived.Test.YteejcokpkginbaaPmSame
import Derived.Test.YteejcokpkginbaaPmLawO
import Derived.Test.YteejcokpkginbaaPmLaw
import Derived.Deep.WholeRow
import Derived.Deep.RegionHeld3
import Derived.Deep.DeepCutAuto
import Derived.Deep.DeepFit
namespace Go.Proofs.Yteejcokpkginbaa
open Go.RowKit

theorem wrd_123 : wrd [1, 2, 3] := fun j => by
  match j with
  | 0 => exact ⟨by decide, by decide⟩
  | 1 => exact ⟨by decide, by decide⟩
  | 2 => exact ⟨by decide, by decide⟩
  | j + 3 => exact ⟨by simp, by simp⟩
set_option linter.unusedSimpArgs false in
set_option maxRecDepth 100000 in
set_option maxHeartbeats 2000000 in
theorem law_primOidOf (v : Value) (L : List Int) (w : World) (hv : Us w v L) (b : wrd L) :
    Calls Try.prog 8 #[v] w fun e w' => e = .returned (.bool true) ∧ Below w.heap.size w w' := by
  have HB : Hid (wrd L) := b
  clear b
  go_enter Try.func8, Try.ntmps8
  go_wp2_with fail
  refine (con_OidOf hv HB.out).mono ?_
  rintro e w2 ⟨hok, hbad⟩
  cases hp : oidOf L with
  | ok n =>
    obtain ⟨v2, rfl, x2, -, hb⟩ := hok n hp
    have bel := hb
    clear hok hbad hb
    go_wp2_with fail
    refine (r13_OidOf (hv.later bel) HB.out).mono ?_
    rintro e w3 ⟨hok, -⟩
    obtain ⟨v3, rfl, x3, hb⟩ := hok n hp
    replace x2 := x2.later hb
    replace bel := below_step bel hb
    clear hok hb
    have st3 : Below w3.heap.size w3 (w3.alloc (.cells #[.int .u64 1, .int .u64 2, .int .u64 3] 44)) := (Below.refl _ _).alloc (Nat.le_refl _) _
    have c3 := us_list w3 [1, 2, 3] 3 rfl (by decide)
    replace bel := below_step bel st3
    replace x2 := x2.later st3
    replace x3 := x3.later st3
    clear st3
    go_wp2_with fail
    refine (con_OidOf c3 wrd_123).mono ?_
    rintro e w9 ⟨hok, -⟩
    obtain ⟨v9, rfl, x9, -, hb⟩ := hok [42, 3] (by rfl)
    replace bel := below_step bel hb
    replace x2 := x2.later hb
    have hn := x2
    replace x2 := conv_any x2
    replace x3 := conv_any (x3.later hb)
    have q0 := nil_ne13
    have q1 := nil_eq13
    have q2 : strOfNums [42, 3] = { data := #[42, 3] } := rfl
    clear hb hok c3
    go_wp2_with fail
    refine con_Code0.mono ?_
    rintro e w4 ⟨rfl, hb⟩
    replace bel := below_step bel hb
    replace x9 := conv_any (x9.later hb)
    rw [q2] at x9
    clear q2 x2 x3
    replace hn := hn.later hb
    have k1 := oid_back HB.out hp
    obtain ⟨k3, k4, k5⟩ := oidOf_good hp
    clear hb
    go_wp2_with fail
    refine (con_Oid hn k3 (by omega)).mono ?_
    rintro e w5 ⟨hok, -⟩
    obtain ⟨v5, rfl, x5, -, hb⟩ := hok _ k1
    replace bel := below_step bel hb
    clear hok hb k1 k3 hp hn x9
    go_wp2_with fail
    refine (con_sameE x5.weak (hv.later bel).weak (by omega)).mono ?_
    rintro e w7 ⟨rfl, hb⟩
    replace bel := below_step bel hb
    clear hb x5 hv
    go_wp2_with fail
    go_ret
    exact ⟨rfl, bel⟩
  | error c =>
    obtain ⟨ao, cap, rfl, hb⟩ := hbad c hp
    have bel := hb
    clear hok hbad hb
    go_wp2_with fail
    refine (r13_OidOf (hv.later bel) HB.out).mono ?_
    rintro e w3 ⟨-, hbad⟩
    obtain ⟨rfl, hb⟩ := hbad c hp
    replace bel := below_step bel hb
    have hc := oidOf_bad hp
    clear hbad hb
    have st3 : Below w3.heap.size w3 (w3.alloc (.cells #[.int .u64 1, .int .u64 2, .int .u64 3] 44)) := (Below.refl _ _).alloc (Nat.le_refl _) _
    have c3 := us_list w3 [1, 2, 3] 3 rfl (by decide)
    replace bel := below_step bel st3
    clear st3
    go_wp2_with fail
    refine (con_OidOf c3 wrd_123).mono ?_
    rintro e w9 ⟨hok, -⟩
    obtain ⟨v9, rfl, x9, -, hb⟩ := hok [42, 3] (by rfl)
    replace bel := below_step bel hb
    have x2 := conv_zero w9 ao cap
    have x3 := conv_zero w9 none 0
    have q0 := nil_ne13
    have q1 := nil_eq13
    have q2 : strOfNums [42, 3] = { data := #[42, 3] } := rfl
    clear hb hok c3
    go_wp2_with fail
    refine (con_CodeC (by omega)).mono ?_
    rintro e w4 ⟨rfl, hb⟩
    replace bel := below_step bel hb
    replace x9 := conv_any (x9.later hb)
    rw [q2] at x9
    clear q2 x2 x3
    have q3 : ¬ (c : Int) = 0 := by omega
    clear hb hp
    go_wp2_with fail
    go_ret
    exact ⟨rfl, bel⟩
end Go.Proofs.Yteejcokpkginbaa
