/- The law PrimText answers true. -/
import Derived.Test.YteejcokpkginbabRows
import Derived.Test.YteejcokpkginbabPrText
import Derived.Test.YteejcokpkginbabPmText
import Derived.Test.YteejcokpkginbabPmLawB
import Derived.Test.YteejcokpkginbabPmLaw
import Derived.Deep.WholeRow
import Derived.Deep.RegionHeld3
import Derived.Deep.DeepCutAuto
import Derived.Deep.DeepFit
namespace Go.Proofs.Yteejcokpkginbab
open Go.RowKit

set_option linter.unusedSimpArgs false in
set_option maxRecDepth 100000 in
set_option maxHeartbeats 2000000 in
theorem law_primText (v : Value) (B : List Int) (w : World) (hv : Bs w v B) (b : byt B) :
    Calls Try.prog 5 #[v] w fun e w' => e = .returned (.bool true) ∧ Below w.heap.size w w' := by
  have HB : Hid (byt B) := b
  have q2 : strOfNums [97] = { data := #[97] } := rfl
  have st : Below w.heap.size w (w.alloc (.cells #[.int .u8 97] 5 (1, 2))) := (Below.refl _ _).alloc (Nat.le_refl _) _
  have c0 := bs_const w [97] 1 rfl (by decide) (1, 2)
  have q5 := Lib.run_convert_bytes_const (P := Try.prog) w 22 5 #[.int .u8 97] 1 1 Try.underlying22 Try.underlying5
  clear b
  go_enter Try.func5, Try.ntmps5
  go_wp2_with fail
  refine (con_Text c0 (byt_of _ (fun j hj => by match j, hj with | 0, _ => exact ⟨by decide, by decide⟩))).mono ?_
  rintro e w1 ⟨hok, -⟩
  obtain ⟨rfl, hb⟩ := hok [97] (by unfold textP; rw [if_neg (by decide), if_neg (by decide), if_neg (by rintro ⟨j, h1, h2⟩; match j, h1 with | 0, _ => exact absurd h2 (by decide))])
  have bel := st.trans (hb.mono st.size)
  clear hok hb c0 st
  rw [q2]
  clear q2 q5
  go_wp2_with fail
  refine (con_Text (hv.later bel) HB.out).mono ?_
  rintro e w2 ⟨hok, hbad⟩
  cases hp : textP B with
  | ok n =>
    obtain ⟨rfl, hb⟩ := hok n hp
    replace bel := below_step bel hb
    clear hok hbad hb
    go_wp2_with fail
    refine (r13_Text (hv.later bel) HB.out).mono ?_
    rintro e w3 ⟨hok, -⟩
    obtain ⟨rfl, hw⟩ := hok n hp
    clear hok
    rw [hw]
    clear hw
    have q1 := nil_eq13
    clear hv hp
    go_wp2_with fail
    refine con_Code0.mono ?_
    rintro e w4 ⟨rfl, hb⟩
    replace bel := below_step bel hb
    clear hb
    go_wp2_with fail
    go_ret
    exact ⟨rfl, bel⟩
  | error c =>
    obtain ⟨rfl, hb⟩ := hbad c hp
    replace bel := below_step bel hb
    clear hok hbad hb
    go_wp2_with fail
    refine (r13_Text (hv.later bel) HB.out).mono ?_
    rintro e w3 ⟨-, hbad⟩
    obtain ⟨rfl, hw⟩ := hbad c hp
    have hc := text_bad hp
    clear hbad
    rw [hw]
    clear hw
    have q1 := nil_eq13
    clear hv hp
    go_wp2_with fail
    refine (con_CodeC (by omega)).mono ?_
    rintro e w4 ⟨rfl, hb⟩
    replace bel := below_step bel hb
    clear hb
    go_wp2_with fail
    go_ret
    exact ⟨rfl, bel⟩
end Go.Proofs.Yteejcokpkginbab
