/- The law PrimSmall answers true. -/
import Derived.Test.YteejcokpkginbaaRows
import Derived.Test.YteejcokpkginbaaPrSmall
import Derived.Test.YteejcokpkginbaaPmLawN
import Derived.Test.YteejcokpkginbaaPmLaw
import Derived.Deep.WholeRow
import Derived.Deep.RegionHeld3
import Derived.Deep.DeepCutAuto
import Derived.Deep.DeepFit
namespace Go.Proofs.Yteejcokpkginbaa
open Go.RowKit

set_option linter.unusedSimpArgs false in
set_option maxRecDepth 100000 in
set_option maxHeartbeats 2000000 in
theorem law_primSmall (v : Value) (B : List Int) (w : World) (hv : Bs w v B) (b : byt B) (hl : B.length ≤ 140737488351232) :
    Calls Try.prog 5 #[v] w fun e w' => e = .returned (.bool true) ∧ Below w.heap.size w w' := by
  have HB : Hid (byt B) := b
  have st : Below w.heap.size w (w.alloc (.cells #[.int .u8 5] 5)) := (Below.refl _ _).alloc (Nat.le_refl _) _
  have c0 := bs_list w [5] 1 rfl (by decide)
  clear b
  go_enter Try.func5, Try.ntmps5
  go_wp2_with fail
  refine (con_Small c0 (byt_of _ (fun j hj => by match j, hj with | 0, _ => exact ⟨by decide, by decide⟩)) (by decide)).mono ?_
  rintro e w1 ⟨hok, -⟩
  obtain ⟨rfl, hb⟩ := hok 5 (by rfl)
  have bel := st.trans (hb.mono st.size)
  clear hok hb c0 st
  go_wp2_with fail
  refine (con_Small (hv.later bel) HB.out hl).mono ?_
  rintro e w2 ⟨hok, hbad⟩
  cases hp : smallP B with
  | ok n =>
    obtain ⟨rfl, hb⟩ := hok n hp
    replace bel := below_step bel hb
    clear hok hbad hb
    go_wp2_with fail
    refine (r13_Small (hv.later bel) HB.out (by omega)).mono ?_
    rintro e w3 ⟨hok, -⟩
    obtain ⟨rfl, hb⟩ := hok n hp
    clear hok
    replace bel := below_step bel hb
    have q1 := nil_eq13
    clear hb hv hp
    go_wp2_with fail
    refine con_Code0.mono ?_
    rintro e w4 ⟨rfl, hb⟩
    replace bel := below_step bel hb
    clear hb
    go_wp2_with fail
    go_ret
    exact ⟨rfl, bel⟩
  | error c =>
    obtain ⟨rfl, hb⟩ := hbad c hp
    replace bel := below_step bel hb
    clear hok hbad hb
    go_wp2_with fail
    refine (r13_Small (hv.later bel) HB.out (by omega)).mono ?_
    rintro e w3 ⟨-, hbad⟩
    obtain ⟨rfl, hb⟩ := hbad c hp
    have hc := small_bad hp
    clear hbad
    replace bel := below_step bel hb
    have q1 := nil_eq13
    clear hb hv hp
    go_wp2_with fail
    refine (con_CodeC (by omega)).mono ?_
    rintro e w4 ⟨rfl, hb⟩
    replace bel := below_step bel hb
    clear hb
    go_wp2_with fail
    go_ret
    exact ⟨rfl, bel⟩
end Go.Proofs.Yteejcokpkginbaa
