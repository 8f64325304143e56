/- The law PrimTruth answers true. -/
import Derived.Test.YteejcokpkginbabRows
import Derived.Test.YteejcokpkginbabPrTruth
import Derived.Test.YteejcokpkginbabPmStr
import Derived.Test.YteejcokpkginbabPmLaw
import Derived.Deep.WholeRow
import Derived.Deep.RegionHeld3
import Derived.Deep.DeepCutAuto
import Derived.Deep.DeepFit
namespace Go.Proofs.Yteejcokpkginbab
open Go.RowKit

set_option linter.unusedSimpArgs false in
set_option maxRecDepth 100000 in
set_option maxHeartbeats 2000000 in
theorem law_primTruth (v : Value) (B : List Int) (w : World) (hv : Bs w v B) (b : byt B) :
    Calls Try.prog 4 #[v] w fun e w' => e = .returned (.bool true) ∧ Below w.heap.size w w' := by
  have HB : Hid (byt B) := b
  have st : Below w.heap.size w (w.alloc (.cells #[.int .u8 255] 5)) := (Below.refl _ _).alloc (Nat.le_refl _) _
  have c0 := bs_list w [255] 1 rfl (by decide)
  clear b
  go_enter Try.func4, Try.ntmps4
  go_wp2_with fail
  refine (con_Truth c0 (byt_of _ (fun j hj => by match j, hj with | 0, _ => exact ⟨by decide, by decide⟩))).mono ?_
  rintro e w1 ⟨hok, -⟩
  obtain ⟨rfl, hb⟩ := hok (.inr rfl)
  have bel := st.trans (hb.mono st.size)
  have q6 : decide (([255] : List Int) = [255]) = true := by decide
  rw [q6]
  clear hok hb c0 st q6
  go_wp2_with fail
  refine (con_Truth (hv.later bel) HB.out).mono ?_
  by_cases hB : B = [0] ∨ B = [255]
  · rcases hB with rfl | rfl
    · have hv0 := hv
      rintro e w2 ⟨hgood, hbad⟩
      obtain ⟨rfl, hb⟩ := hgood (.inl rfl)
      replace bel := below_step bel hb
      obtain ⟨ao, cap, e0, h1, h2, h3⟩ := hv
      obtain ⟨g, o, rfl, lg, hc⟩ := h3 (by decide)
      subst e0
      have c0 := (bel.cell (p := ⟨g, o + 0, none⟩) lg).trans (hc 0 (by decide))
      rw [Nat.add_zero] at c0
      replace c0 : w2.cell? ⟨g, o, none⟩ = some (.int .u8 0) := c0
      have lg2 := Nat.lt_of_lt_of_le lg bel.size
      have x2 := conv_any (hv0.later bel)
      have q2 : strOfNums [0] = { data := #[0] } := rfl
      rw [q2] at x2
      replace x2 : (convert 22 9 (.slice (some ⟨g, o, none⟩) 1 cap)).run Try.prog w2 = .ok (.string _) w2 := x2
      have q7 : decide (([0] : List Int) = [255]) = false := by decide
      rw [q7]
      clear hgood hbad hb h3 hc h1 h2 hv0 lg q2 q7
      have q0 := nil_ne13
      have q1 := nil_eq13
      go_wp2_with fail
      go_ret
      exact ⟨rfl, bel⟩
    · have hv0 := hv
      rintro e w2 ⟨hgood, hbad⟩
      obtain ⟨rfl, hb⟩ := hgood (.inr rfl)
      replace bel := below_step bel hb
      obtain ⟨ao, cap, e0, h1, h2, h3⟩ := hv
      obtain ⟨g, o, rfl, lg, hc⟩ := h3 (by decide)
      subst e0
      have c0 := (bel.cell (p := ⟨g, o + 0, none⟩) lg).trans (hc 0 (by decide))
      rw [Nat.add_zero] at c0
      replace c0 : w2.cell? ⟨g, o, none⟩ = some (.int .u8 255) := c0
      have lg2 := Nat.lt_of_lt_of_le lg bel.size
      have x2 := conv_any (hv0.later bel)
      have q2 : strOfNums [255] = { data := #[255] } := rfl
      rw [q2] at x2
      replace x2 : (convert 22 9 (.slice (some ⟨g, o, none⟩) 1 cap)).run Try.prog w2 = .ok (.string _) w2 := x2
      have q7 : decide (([255] : List Int) = [255]) = true := by decide
      rw [q7]
      clear hgood hbad hb h3 hc h1 h2 hv0 lg q2 q7
      have q0 := nil_ne13
      have q1 := nil_eq13
      go_wp2_with fail
      go_ret
      exact ⟨rfl, bel⟩
  · rintro e w2 ⟨hgood, hbad⟩
    obtain ⟨rfl, hb⟩ := hbad hB
    replace bel := below_step bel hb
    have x2 := conv_any (hv.later bel)
    have s0 : ((strOfNums B).toList == [0]) = false := by
      have := str_eqM HB.out (byt_of _ (fun j hj => by match j, hj with | 0, _ => exact ⟨by decide, by decide⟩)) (B := [0])
      rw [decide_eq_false (fun k => hB (.inl k)), lett_of [0]] at this
      exact this
    have s1 : ((strOfNums B).toList == [255]) = false := by
      have := str_eqM HB.out (byt_of _ (fun j hj => by match j, hj with | 0, _ => exact ⟨by decide, by decide⟩)) (B := [255])
      rw [decide_eq_false (fun k => hB (.inr k)), lett_of [255]] at this
      exact this
    have q8 := code_eq 7 7
    clear hgood hbad hb hv
    have q0 := nil_ne13
    have q1 := nil_eq13
    go_wp2_with fail
    go_ret
    exact ⟨rfl, bel⟩
end Go.Proofs.Yteejcokpkginbab
