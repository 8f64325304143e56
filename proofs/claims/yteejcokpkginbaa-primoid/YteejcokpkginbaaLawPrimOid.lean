/- The law PrimOid answers true. -/
import Derived.Test.YteejcokpkginbaaRows
import Derived.Test.YteejcokpkginbaaPrOid
import Derived.Test.YteejcokpkginbaaPmOidR
import Derived.Test.YteejcokpkginbaaPmSame
import Derived.Test.YteejcokpkginbaaPmLawO
import Derived.Test.YteejcokpkginbaaPmLaw
import Derived.Deep.WholeRow
import Derived.Deep.RegionHeld3
import Derived.Deep.DeepCutAuto
import Derived.Deep.DeepFit
namespace Go.Proofs.Yteejcokpkginbaa
open Go.RowKit

set_option linter.unusedSimpArgs false in
set_option maxRecDepth 100000 in
set_option maxHeartbeats 2000000 in
theorem law_primOid (v : Value) (B : List Int) (w : World) (hv : Bs w v B) (b : byt B) (hl : B.length ≤ 1099511627776) :
    Calls Try.prog 7 #[v] w fun e w' => e = .returned (.bool true) ∧ Below w.heap.size w w' := by
  have HB : Hid (byt B) := b
  have st : Below w.heap.size w (w.alloc (.cells #[.int .u8 42, .int .u8 3] 5)) := (Below.refl _ _).alloc (Nat.le_refl _) _
  have c0 := bs_list w [42, 3] 2 rfl (by decide)
  clear b
  go_enter Try.func7, Try.ntmps7
  go_wp2_with fail
  refine (con_Oid c0 (byt_of _ (fun j hj => by match j, hj with | 0, _ => exact ⟨by decide, by decide⟩ | 1, _ => exact ⟨by decide, by decide⟩)) (by decide)).mono ?_
  rintro e w1 ⟨hok, -⟩
  obtain ⟨v1, rfl, x1, -, hb⟩ := hok [1, 2, 3] (by rfl)
  have bel := st.trans (hb.mono st.size)
  clear hok hb c0 st
  go_wp2_with fail
  refine (con_Oid (hv.later bel) HB.out (by omega)).mono ?_
  rintro e w2 ⟨hok, hbad⟩
  cases hp : oidP B with
  | ok n =>
    obtain ⟨v2, rfl, x2, -, hb⟩ := hok n hp
    replace x1 := x1.later hb
    replace bel := below_step bel hb
    clear hok hbad hb
    go_wp2_with fail
    refine (r13_Oid (hv.later bel) HB.out hl).mono ?_
    rintro e w3 ⟨hok, -⟩
    obtain ⟨v3, rfl, x3, hb⟩ := hok n hp
    replace x1 := (x1.later hb)
    replace x2 := (x2.later hb)
    have hn := oid_len hp
    clear hok
    replace bel := below_step bel hb
    have q1 := nil_eq13
    have st3 : Below w3.heap.size w3 (w3.alloc (.cells #[.int .u64 1, .int .u64 2, .int .u64 3] 44)) := (Below.refl _ _).alloc (Nat.le_refl _) _
    have c3 := us_list w3 [1, 2, 3] 3 rfl (by decide)
    replace x1 := x1.later st3
    replace bel := below_step bel st3
    clear hb hv hp
    replace x2 := x2.later st3
    replace x3 := x3.later st3
    go_wp2_with fail
    refine (con_sameE x1.weak c3.weak (by decide)).mono ?_
    rintro e w6 ⟨rfl, hb⟩
    replace bel := below_step bel hb
    replace x2 := x2.later hb
    replace x3 := x3.later hb
    clear hb st3 c3 x1
    go_wp2_with fail
    refine (con_sameE x2.weak x3.weak (by omega)).mono ?_
    rintro e w7 ⟨rfl, hb⟩
    replace bel := below_step bel hb
    clear hb x2 x3
    go_wp2_with fail
    refine con_Code0.mono ?_
    rintro e w4 ⟨rfl, hb⟩
    replace bel := below_step bel hb
    clear hb
    go_wp2_with fail
    go_ret
    exact ⟨rfl, bel⟩
  | error c =>
    obtain ⟨ao, cap, rfl, hb⟩ := hbad c hp
    replace x1 := x1.later hb
    replace bel := below_step bel hb
    clear hok hbad hb
    go_wp2_with fail
    refine (r13_Oid (hv.later bel) HB.out hl).mono ?_
    rintro e w3 ⟨-, hbad⟩
    obtain ⟨rfl, hb⟩ := hbad c hp
    replace x1 := (x1.later hb)
    have hc := oid_bad hp
    clear hbad
    replace bel := below_step bel hb
    have q1 := nil_eq13
    have st3 : Below w3.heap.size w3 (w3.alloc (.cells #[.int .u64 1, .int .u64 2, .int .u64 3] 44)) := (Below.refl _ _).alloc (Nat.le_refl _) _
    have c3 := us_list w3 [1, 2, 3] 3 rfl (by decide)
    replace x1 := x1.later st3
    replace bel := below_step bel st3
    clear hb hv hp
    go_wp2_with fail
    refine (con_sameE x1.weak c3.weak (by decide)).mono ?_
    rintro e w6 ⟨rfl, hb⟩
    replace bel := below_step bel hb
    clear hb st3 c3 x1
    go_wp2_with fail
    refine (con_sameE (us0_zero _ ao cap) (us0_zero _ none 0) (by decide)).mono ?_
    rintro e w7 ⟨rfl, hb⟩
    replace bel := below_step bel hb
    clear hb
    go_wp2_with fail
    refine (con_CodeC (by omega)).mono ?_
    rintro e w4 ⟨rfl, hb⟩
    replace bel := below_step bel hb
    clear hb
    go_wp2_with fail
    go_ret
    exact ⟨rfl, bel⟩
end Go.Proofs.Yteejcokpkginbaa
