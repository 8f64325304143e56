/- The law PrimTime answers true. -/
import Derived.Test.YteejcokpkginbabRows
import Derived.Test.YteejcokpkginbabPrTime
import Derived.Test.YteejcokpkginbabPmTime
import Derived.Test.YteejcokpkginbabPmLawT
import Derived.Test.YteejcokpkginbabPmLaw
import Derived.Deep.WholeRow
import Derived.Deep.RegionHeld3
import Derived.Deep.DeepCutAuto
import Derived.Deep.DeepFit
namespace Go.Proofs.Yteejcokpkginbab
open Go.RowKit

set_option linter.unusedSimpArgs false in
set_option maxRecDepth 100000 in
set_option maxHeartbeats 2000000 in
theorem law_primTime (t : Int) (v : Value) (B : List Int) (w : World) (_ : -9223372036854775808 ≤ t ∧ t < 9223372036854775808) (hv : Bs w v B) (b : byt B) (hl : B.length ≤ 140737488351232) :
    Calls Try.prog 6 #[.int .i64 t, v] w fun e w' => e = .returned (.bool true) ∧ Below w.heap.size w w' := by
  have HB : Hid (byt B) := b
  have st : Below w.heap.size w (w.alloc (.cells #[.int .u8 53, .int .u8 48, .int .u8 48, .int .u8 49, .int .u8 48, .int .u8 49, .int .u8 48, .int .u8 48, .int .u8 48, .int .u8 48, .int .u8 48, .int .u8 48, .int .u8 90] 5 (13, 14))) := (Below.refl _ _).alloc (Nat.le_refl _) _
  have c0 := bs_const w [53, 48, 48, 49, 48, 49, 48, 48, 48, 48, 48, 48, 90] 13 rfl (by decide) (13, 14)
  have q5 := Lib.run_convert_bytes_const (P := Try.prog) w 22 5 #[.int .u8 53, .int .u8 48, .int .u8 48, .int .u8 49, .int .u8 48, .int .u8 49, .int .u8 48, .int .u8 48, .int .u8 48, .int .u8 48, .int .u8 48, .int .u8 48, .int .u8 90] 13 13 Try.underlying22 Try.underlying5
  clear b
  go_enter Try.func6, Try.ntmps6
  go_wp2_with fail
  refine (con_Time (tag := 23) c0 (byt_of _ (fun j hj => by match j, hj with | 0, _ => exact ⟨by decide, by decide⟩ | 1, _ => exact ⟨by decide, by decide⟩ | 2, _ => exact ⟨by decide, by decide⟩ | 3, _ => exact ⟨by decide, by decide⟩ | 4, _ => exact ⟨by decide, by decide⟩ | 5, _ => exact ⟨by decide, by decide⟩ | 6, _ => exact ⟨by decide, by decide⟩ | 7, _ => exact ⟨by decide, by decide⟩ | 8, _ => exact ⟨by decide, by decide⟩ | 9, _ => exact ⟨by decide, by decide⟩ | 10, _ => exact ⟨by decide, by decide⟩ | 11, _ => exact ⟨by decide, by decide⟩ | 12, _ => exact ⟨by decide, by decide⟩)) (by decide)).mono ?_
  rintro e w1 ⟨hok, -⟩
  obtain ⟨rfl, hb⟩ := hok (-631152000) tim_1950
  have bel := st.trans (hb.mono st.size)
  clear hok hb c0 st
  go_wp2_with fail
  refine (con_Time (hv.later bel) HB.out hl).mono ?_
  rintro e w2 ⟨hok, hbad⟩
  cases hp : timeP t B with
  | ok n =>
    obtain ⟨rfl, hb⟩ := hok n hp
    replace bel := below_step bel hb
    clear hok hbad hb
    go_wp2_with fail
    refine (r13_Time (hv.later bel) HB.out (by omega)).mono ?_
    rintro e w3 ⟨hok, -⟩
    obtain ⟨rfl, hb⟩ := hok n hp
    clear hok
    replace bel := below_step bel hb
    have q1 := nil_eq13
    clear hb hv hp
    go_wp2_with fail
    refine con_Code0.mono ?_
    rintro e w4 ⟨rfl, hb⟩
    replace bel := below_step bel hb
    clear hb
    go_wp2_with fail
    go_ret
    exact ⟨rfl, bel⟩
  | error c =>
    obtain ⟨rfl, hb⟩ := hbad c hp
    replace bel := below_step bel hb
    clear hok hbad hb
    go_wp2_with fail
    refine (r13_Time (hv.later bel) HB.out (by omega)).mono ?_
    rintro e w3 ⟨-, hbad⟩
    obtain ⟨rfl, hb⟩ := hbad c hp
    have hc := time_bad hp
    clear hbad
    replace bel := below_step bel hb
    have q1 := nil_eq13
    clear hb hv hp
    go_wp2_with fail
    refine (con_CodeC (by omega)).mono ?_
    rintro e w4 ⟨rfl, hb⟩
    replace bel := below_step bel hb
    clear hb
    go_wp2_with fail
    go_ret
    exact ⟨rfl, bel⟩
end Go.Proofs.Yteejcokpkginbab
