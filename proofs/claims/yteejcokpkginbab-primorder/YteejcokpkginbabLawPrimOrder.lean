/- The law PrimOrder answers true. -/
import Derived.Test.YteejcokpkginbabRows
import Derived.Test.YteejcokpkginbabPrTime
import Derived.Test.YteejcokpkginbabPmOrd
import Derived.Test.YteejcokpkginbabPmLawT
import Derived.Test.YteejcokpkginbabPmLaw
import Derived.Deep.WholeRow
import Derived.Deep.RegionHeld3
import Derived.Deep.DeepCutAuto
import Derived.Deep.DeepFit
namespace Go.Proofs.Yteejcokpkginbab
open Go.RowKit

theorem time_24 {A : List Int} {x : Int} (h : timeP 24 A = .ok x) : timeF 4 A = .ok x := by
  unfold timeP at h
  rw [if_neg (by decide), if_pos rfl] at h
  exact h
theorem code_not13 (c : Int) : ∀ w : World, (binOp .neq 24 (.iface 33 (.int .i64 c)) .nilIface).run Try.prog w = .ok (.bool true) w := fun _ => by kernel_rfl
set_option linter.unusedSimpArgs false in
set_option maxRecDepth 100000 in
set_option maxHeartbeats 2000000 in
theorem law_primOrder (va : Value) (A : List Int) (vb : Value) (B : List Int) (w : World) (ha : Bs w va A) (ba : byt A) (la : A.length ≤ 140737488351232) (hb : Bs w vb B) (bb : byt B) (lb : B.length ≤ 140737488351232) :
    Calls Try.prog 8 #[va, vb] w fun e w' => e = .returned (.bool true) ∧ Below w.heap.size w w' := by
  have HA : Hid (byt A) := ba
  have HB : Hid (byt B) := bb
  clear ba bb
  go_enter Try.func8, Try.ntmps8
  go_wp2_with fail
  refine (con_Time ha HA.out la).mono ?_
  rintro e w1 ⟨hok1, hbad1⟩
  cases hp1 : timeP 24 A with
  | ok x =>
    obtain ⟨rfl, bel⟩ := hok1 x hp1
    clear hok1 hbad1
    go_wp2_with fail
    refine (con_Time (hb.later bel) HB.out lb).mono ?_
    rintro e w2 ⟨hok2, hbad2⟩
    cases hp2 : timeP 24 B with
    | ok z =>
      obtain ⟨rfl, hb2⟩ := hok2 z hp2
      replace bel := below_step bel hb2
      clear hok2 hbad2 hb2
      have st : Below w2.heap.size w2 (w2.alloc (.cells #[.int .u8 55, .int .u8 48, .int .u8 48, .int .u8 49, .int .u8 48, .int .u8 49, .int .u8 48, .int .u8 48, .int .u8 48, .int .u8 48, .int .u8 48, .int .u8 49, .int .u8 90] 5 (13, 14))) := (Below.refl _ _).alloc (Nat.le_refl _) _
      have c0 := bs_const w2 [55, 48, 48, 49, 48, 49, 48, 48, 48, 48, 48, 49, 90] 13 rfl (by decide) (13, 14)
      have q5 := Lib.run_convert_bytes_const (P := Try.prog) w2 22 5 #[.int .u8 55, .int .u8 48, .int .u8 48, .int .u8 49, .int .u8 48, .int .u8 49, .int .u8 48, .int .u8 48, .int .u8 48, .int .u8 48, .int .u8 48, .int .u8 49, .int .u8 90] 13 13 Try.underlying22 Try.underlying5
      replace bel := below_step bel st
      go_wp2_with fail
      refine (con_Time (tag := 23) c0 (byt_of _ (fun j hj => by match j, hj with | 0, _ => exact ⟨by decide, by decide⟩ | 1, _ => exact ⟨by decide, by decide⟩ | 2, _ => exact ⟨by decide, by decide⟩ | 3, _ => exact ⟨by decide, by decide⟩ | 4, _ => exact ⟨by decide, by decide⟩ | 5, _ => exact ⟨by decide, by decide⟩ | 6, _ => exact ⟨by decide, by decide⟩ | 7, _ => exact ⟨by decide, by decide⟩ | 8, _ => exact ⟨by decide, by decide⟩ | 9, _ => exact ⟨by decide, by decide⟩ | 10, _ => exact ⟨by decide, by decide⟩ | 11, _ => exact ⟨by decide, by decide⟩ | 12, _ => exact ⟨by decide, by decide⟩)) (by decide)).mono ?_
      rintro e w3 ⟨hok, -⟩
      obtain ⟨rfl, hb9⟩ := hok 1 tim_1970
      replace bel := below_step bel hb9
      clear hok hb9 c0 st q5
      have q0 := nil_ne13
      have q1 := nil_eq13
      have x1 := conv_any (ha.later bel)
      have x2 := conv_any (hb.later bel)
      obtain ⟨o1, o2⟩ := time_order (time_24 hp1) (time_24 hp2)
      rw [← lett_of, ← lett_of] at o1 o2
      have o3 : decide (x = z) = (x == z) := rfl
      rw [o3] at o2
      clear hp1 hp2 ha hb o3
      go_wp2_with fail
      go_ret
      exact ⟨rfl, bel⟩
    | error c2 =>
      obtain ⟨rfl, hb2⟩ := hbad2 c2 hp2
      replace bel := below_step bel hb2
      clear hok2 hbad2 hb2
      have st : Below w2.heap.size w2 (w2.alloc (.cells #[.int .u8 55, .int .u8 48, .int .u8 48, .int .u8 49, .int .u8 48, .int .u8 49, .int .u8 48, .int .u8 48, .int .u8 48, .int .u8 48, .int .u8 48, .int .u8 49, .int .u8 90] 5 (13, 14))) := (Below.refl _ _).alloc (Nat.le_refl _) _
      have c0 := bs_const w2 [55, 48, 48, 49, 48, 49, 48, 48, 48, 48, 48, 49, 90] 13 rfl (by decide) (13, 14)
      have q5 := Lib.run_convert_bytes_const (P := Try.prog) w2 22 5 #[.int .u8 55, .int .u8 48, .int .u8 48, .int .u8 49, .int .u8 48, .int .u8 49, .int .u8 48, .int .u8 48, .int .u8 48, .int .u8 48, .int .u8 48, .int .u8 49, .int .u8 90] 13 13 Try.underlying22 Try.underlying5
      replace bel := below_step bel st
      go_wp2_with fail
      refine (con_Time (tag := 23) c0 (byt_of _ (fun j hj => by match j, hj with | 0, _ => exact ⟨by decide, by decide⟩ | 1, _ => exact ⟨by decide, by decide⟩ | 2, _ => exact ⟨by decide, by decide⟩ | 3, _ => exact ⟨by decide, by decide⟩ | 4, _ => exact ⟨by decide, by decide⟩ | 5, _ => exact ⟨by decide, by decide⟩ | 6, _ => exact ⟨by decide, by decide⟩ | 7, _ => exact ⟨by decide, by decide⟩ | 8, _ => exact ⟨by decide, by decide⟩ | 9, _ => exact ⟨by decide, by decide⟩ | 10, _ => exact ⟨by decide, by decide⟩ | 11, _ => exact ⟨by decide, by decide⟩ | 12, _ => exact ⟨by decide, by decide⟩)) (by decide)).mono ?_
      rintro e w3 ⟨hok, -⟩
      obtain ⟨rfl, hb9⟩ := hok 1 tim_1970
      replace bel := below_step bel hb9
      clear hok hb9 c0 st q5
      have q0 := nil_ne13
      have q1 := nil_eq13
      clear ha hb
      have q9 := code_not13
      go_wp2_with fail
      go_ret
      exact ⟨rfl, bel⟩
  | error c =>
    obtain ⟨rfl, bel⟩ := hbad1 c hp1
    clear hok1 hbad1
    go_wp2_with fail
    refine (con_Time (hb.later bel) HB.out lb).mono ?_
    rintro e w2 ⟨hok2, hbad2⟩
    cases hp2 : timeP 24 B with
    | ok z =>
      obtain ⟨rfl, hb2⟩ := hok2 z hp2
      replace bel := below_step bel hb2
      clear hok2 hbad2 hb2
      have st : Below w2.heap.size w2 (w2.alloc (.cells #[.int .u8 55, .int .u8 48, .int .u8 48, .int .u8 49, .int .u8 48, .int .u8 49, .int .u8 48, .int .u8 48, .int .u8 48, .int .u8 48, .int .u8 48, .int .u8 49, .int .u8 90] 5 (13, 14))) := (Below.refl _ _).alloc (Nat.le_refl _) _
      have c0 := bs_const w2 [55, 48, 48, 49, 48, 49, 48, 48, 48, 48, 48, 49, 90] 13 rfl (by decide) (13, 14)
      have q5 := Lib.run_convert_bytes_const (P := Try.prog) w2 22 5 #[.int .u8 55, .int .u8 48, .int .u8 48, .int .u8 49, .int .u8 48, .int .u8 49, .int .u8 48, .int .u8 48, .int .u8 48, .int .u8 48, .int .u8 48, .int .u8 49, .int .u8 90] 13 13 Try.underlying22 Try.underlying5
      replace bel := below_step bel st
      go_wp2_with fail
      refine (con_Time (tag := 23) c0 (byt_of _ (fun j hj => by match j, hj with | 0, _ => exact ⟨by decide, by decide⟩ | 1, _ => exact ⟨by decide, by decide⟩ | 2, _ => exact ⟨by decide, by decide⟩ | 3, _ => exact ⟨by decide, by decide⟩ | 4, _ => exact ⟨by decide, by decide⟩ | 5, _ => exact ⟨by decide, by decide⟩ | 6, _ => exact ⟨by decide, by decide⟩ | 7, _ => exact ⟨by decide, by decide⟩ | 8, _ => exact ⟨by decide, by decide⟩ | 9, _ => exact ⟨by decide, by decide⟩ | 10, _ => exact ⟨by decide, by decide⟩ | 11, _ => exact ⟨by decide, by decide⟩ | 12, _ => exact ⟨by decide, by decide⟩)) (by decide)).mono ?_
      rintro e w3 ⟨hok, -⟩
      obtain ⟨rfl, hb9⟩ := hok 1 tim_1970
      replace bel := below_step bel hb9
      clear hok hb9 c0 st q5
      have q0 := nil_ne13
      have q1 := nil_eq13
      clear ha hb
      have q9 := code_not13
      go_wp2_with fail
      go_ret
      exact ⟨rfl, bel⟩
    | error c2 =>
      obtain ⟨rfl, hb2⟩ := hbad2 c2 hp2
      replace bel := below_step bel hb2
      clear hok2 hbad2 hb2
      have st : Below w2.heap.size w2 (w2.alloc (.cells #[.int .u8 55, .int .u8 48, .int .u8 48, .int .u8 49, .int .u8 48, .int .u8 49, .int .u8 48, .int .u8 48, .int .u8 48, .int .u8 48, .int .u8 48, .int .u8 49, .int .u8 90] 5 (13, 14))) := (Below.refl _ _).alloc (Nat.le_refl _) _
      have c0 := bs_const w2 [55, 48, 48, 49, 48, 49, 48, 48, 48, 48, 48, 49, 90] 13 rfl (by decide) (13, 14)
      have q5 := Lib.run_convert_bytes_const (P := Try.prog) w2 22 5 #[.int .u8 55, .int .u8 48, .int .u8 48, .int .u8 49, .int .u8 48, .int .u8 49, .int .u8 48, .int .u8 48, .int .u8 48, .int .u8 48, .int .u8 48, .int .u8 49, .int .u8 90] 13 13 Try.underlying22 Try.underlying5
      replace bel := below_step bel st
      go_wp2_with fail
      refine (con_Time (tag := 23) c0 (byt_of _ (fun j hj => by match j, hj with | 0, _ => exact ⟨by decide, by decide⟩ | 1, _ => exact ⟨by decide, by decide⟩ | 2, _ => exact ⟨by decide, by decide⟩ | 3, _ => exact ⟨by decide, by decide⟩ | 4, _ => exact ⟨by decide, by decide⟩ | 5, _ => exact ⟨by decide, by decide⟩ | 6, _ => exact ⟨by decide, by decide⟩ | 7, _ => exact ⟨by decide, by decide⟩ | 8, _ => exact ⟨by decide, by decide⟩ | 9, _ => exact ⟨by decide, by decide⟩ | 10, _ => exact ⟨by decide, by decide⟩ | 11, _ => exact ⟨by decide, by decide⟩ | 12, _ => exact ⟨by decide, by decide⟩)) (by decide)).mono ?_
      rintro e w3 ⟨hok, -⟩
      obtain ⟨rfl, hb9⟩ := hok 1 tim_1970
      replace bel := below_step bel hb9
      clear hok hb9 c0 st q5
      have q0 := nil_ne13
      have q1 := nil_eq13
      clear ha hb
      have q9 := code_not13
      go_wp2_with fail
      go_ret
      exact ⟨rfl, bel⟩
end Go.Proofs.Yteejcokpkginbab
