/- The law PrimBits answers true. -/
import Derived.Test.YteejcokpkginbabRows
import Derived.Test.YteejcokpkginbabPrBits
import Derived.Test.YteejcokpkginbabPmBits
import Derived.Test.YteejcokpkginbabPmLawB
import Derived.Test.YteejcokpkginbabPmLaw
import Derived.Deep.WholeRow
import Derived.Deep.RegionHeld3
import Derived.Deep.DeepCutAuto
import Derived.Deep.DeepFit
namespace Go.Proofs.Yteejcokpkginbab
open Go.RowKit

set_option linter.unusedSimpArgs false in
set_option maxRecDepth 100000 in
set_option maxHeartbeats 2000000 in
theorem law_primBits (v : Value) (B : List Int) (w : World) (hv : Bs w v B) (b : byt B) (hl : B.length ≤ 140737488351232) :
    Calls Try.prog 3 #[v] w fun e w' => e = .returned (.bool true) ∧ Below w.heap.size w w' := by
  have HB : Hid (byt B) := b
  have st : Below w.heap.size w (w.alloc (.cells #[.int .u8 3, .int .u8 248] 5)) := (Below.refl _ _).alloc (Nat.le_refl _) _
  have c0 := bs_list w [3, 248] 2 rfl (by decide)
  clear b
  go_enter Try.func3, Try.ntmps3
  go_wp2_with fail
  refine (con_Bits c0 (byt_of _ (fun j hj => by match j, hj with | 0, _ => exact ⟨by decide, by decide⟩ | 1, _ => exact ⟨by decide, by decide⟩)) (by decide)).mono ?_
  rintro e w1 ⟨hok, -⟩
  obtain ⟨v1, rfl, x1, -, hb⟩ := hok [248] 3 (by rfl)
  have bel := st.trans (hb.mono st.size)
  clear hok hb c0 st
  go_wp2_with fail
  refine (con_Bits (hv.later bel) HB.out hl).mono ?_
  rintro e w2 ⟨hok, hbad⟩
  cases hp : bitsP B with
  | ok n =>
    obtain ⟨n, k⟩ := n
    obtain ⟨v2, rfl, x2, -, hb⟩ := hok n k hp
    replace x1 := x1.later hb
    replace bel := below_step bel hb
    clear hok hbad hb
    go_wp2_with fail
    refine (r13_Bits (hv.later bel) HB.out (by omega)).mono ?_
    rintro e w3 ⟨hok, -⟩
    obtain ⟨v3, rfl, x3, hb⟩ := hok n k hp
    replace x1 := conv_any (x1.later hb)
    replace x2 := conv_any (x2.later hb)
    replace x3 := conv_any x3
    clear hok
    replace bel := below_step bel hb
    have q1 := nil_eq13
    have q2 : strOfNums [248] = { data := #[248] } := rfl
    rw [q2] at x1
    clear hb hv hp q2
    go_wp2_with fail
    refine con_Code0.mono ?_
    rintro e w4 ⟨rfl, hb⟩
    replace bel := below_step bel hb
    clear hb x1 x2 x3
    go_wp2_with fail
    go_ret
    exact ⟨rfl, bel⟩
  | error c =>
    obtain ⟨ao, cap, rfl, hb⟩ := hbad c hp
    replace x1 := x1.later hb
    replace bel := below_step bel hb
    clear hok hbad hb
    go_wp2_with fail
    refine (r13_Bits (hv.later bel) HB.out (by omega)).mono ?_
    rintro e w3 ⟨-, hbad⟩
    obtain ⟨rfl, hb⟩ := hbad c hp
    replace x1 := conv_any (x1.later hb)
    have x2 := conv_zero w3 ao cap
    have x3 := conv_zero w3 none 0
    have hc := bits_bad hp
    clear hbad
    replace bel := below_step bel hb
    have q1 := nil_eq13
    have q2 : strOfNums [248] = { data := #[248] } := rfl
    rw [q2] at x1
    clear hb hv hp q2
    go_wp2_with fail
    refine (con_CodeC (by omega)).mono ?_
    rintro e w4 ⟨rfl, hb⟩
    replace bel := below_step bel hb
    clear hb x1 x2 x3
    go_wp2_with fail
    go_ret
    exact ⟨rfl, bel⟩
end Go.Proofs.Yteejcokpkginbab
