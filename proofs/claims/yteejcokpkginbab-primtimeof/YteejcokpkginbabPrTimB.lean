/- The program's centuryOf, exists of layer 13. -/
import Derived.Test.YteejcokpkginbabRows
import Derived.Test.YteejcokpkginbabPrTimA
import Derived.Deep.OwnRows
import Derived.Deep.AppendLies
import Derived.Great.BuildSlice
import Derived.BigQuiet
import Derived.Deep.WholeRow
import Derived.Deep.RegionHeld3
import Derived.Deep.DeepCutAuto
import Derived.Deep.DeepFit
namespace Go.Proofs.Yteejcokpkginbab
open Go.RowKit

set_option linter.unusedSimpArgs false in
set_option maxRecDepth 100000 in
set_option maxHeartbeats 400000 in
theorem c13_century {y : Nat} {w : World} : Calls Try.prog 22 #[.int .i64 (y : Int)] w fun e w' => e = .returned (.int .i64 ((if y < 50 then 20 else 19 : Nat) : Int)) ∧ w' = w := by
  by_cases c : y < 50
  · have g : (y : Int) < 50 := by omega
    have HE : Hid ((if y < 50 then 20 else 19 : Nat) = 20) := if_pos c
    rw [HE.out]
    clear HE c
    go_enter Try.func22, Try.ntmps22
    go_wp2_with fail
    go_ret
    exact ⟨rfl, rfl⟩
  · have g : ¬ (y : Int) < 50 := by omega
    have HE : Hid ((if y < 50 then 20 else 19 : Nat) = 19) := if_neg c
    rw [HE.out]
    clear HE c
    go_enter Try.func22, Try.ntmps22
    go_wp2_with fail
    go_ret
    exact ⟨rfl, rfl⟩
set_option linter.unusedSimpArgs false in
set_option maxRecDepth 100000 in
set_option maxHeartbeats 2000000 in
theorem c13_exists {y m d h i s : Nat} {w : World} (hy : y ≤ 99999) :
    Calls Try.prog 23 #[.agg #[.int .i64 (y : Int), .int .i64 (m : Int), .int .i64 (d : Int), .int .i64 (h : Int), .int .i64 (i : Int), .int .i64 (s : Int)]] w fun e w' => e = .returned (.bool (exZ y m d h i s)) ∧ Below w.heap.size w w' := by
  have B0 := Blk.new w [.int .i64 (y : Int), .int .i64 (m : Int), .int .i64 (d : Int), .int .i64 (h : Int), .int .i64 (i : Int), .int .i64 (s : Int)] 55 w.heap.size rfl
  have bel : Below w.heap.size w (w.alloc (.cells #[.int .i64 (y : Int), .int .i64 (m : Int), .int .i64 (d : Int), .int .i64 (h : Int), .int .i64 (i : Int), .int .i64 (s : Int)] 55)) := (Below.refl _ _).alloc (Nat.le_refl _) _
  have e0 := B0.cell 0 _ rfl
  have e1 := B0.cell 1 _ rfl
  have e2 := B0.cell 2 _ rfl
  have e3 := B0.cell 3 _ rfl
  have e4 := B0.cell 4 _ rfl
  have e5 := B0.cell 5 _ rfl
  have lt0 := B0.lt
  clear B0
  by_cases c1 : 1 ≤ m
  rotate_left
  · have HE : Hid (exZ y m d h i s = false) := decide_eq_false (fun z => c1 z.1)
    have g1 : decide ((1 : Int) ≤ (m : Int)) = false := decide_eq_false (by omega)
    go_enter Try.func23, Try.ntmps23
    go_upto_region 1 with fail
    go_quiet (fail)
    go_wp2_with fail
    go_ret
    exact ⟨by rw [HE.out]; rfl, below_dN bel _⟩
  have g1 : decide ((1 : Int) ≤ (m : Int)) = true := decide_eq_true (by omega)
  by_cases c2 : m ≤ 12
  rotate_left
  · have HE : Hid (exZ y m d h i s = false) := decide_eq_false (fun z => c2 z.2.1)
    have g2 : decide ((m : Int) ≤ 12) = false := decide_eq_false (by omega)
    go_enter Try.func23, Try.ntmps23
    go_upto_region 1 with fail
    go_quiet (fail)
    go_wp2_with fail
    go_ret
    exact ⟨by rw [HE.out]; rfl, below_dN bel _⟩
  have g2 : decide ((m : Int) ≤ 12) = true := decide_eq_true (by omega)
  by_cases c3 : 1 ≤ d
  rotate_left
  · have HE : Hid (exZ y m d h i s = false) := decide_eq_false (fun z => c3 z.2.2.1)
    have g3 : decide ((1 : Int) ≤ (d : Int)) = false := decide_eq_false (by omega)
    go_enter Try.func23, Try.ntmps23
    go_upto_region 1 with fail
    go_quiet (fail)
    go_wp2_with fail
    go_ret
    exact ⟨by rw [HE.out]; rfl, below_dN bel _⟩
  have g3 : decide ((1 : Int) ≤ (d : Int)) = true := decide_eq_true (by omega)
  by_cases c4 : (d : Int) ≤ mdZ y m
  rotate_left
  · have HE : Hid (exZ y m d h i s = false) := decide_eq_false (fun z => c4 z.2.2.2.1)
    have g4 : decide ((d : Int) ≤ mdZ y m) = false := decide_eq_false (by omega)
    go_enter Try.func23, Try.ntmps23
    go_upto_region 1 with fail
    go_quiet (((go_at_call 31; exact Calls.quiet_of_same (c13_mdays hy c1 c2))))
    go_wp2_with fail
    go_ret
    exact ⟨by rw [HE.out]; rfl, below_dN bel _⟩
  have g4 : decide ((d : Int) ≤ mdZ y m) = true := decide_eq_true (by omega)
  by_cases c5 : h < 24
  rotate_left
  · have HE : Hid (exZ y m d h i s = false) := decide_eq_false (fun z => c5 z.2.2.2.2.1)
    have g5 : decide ((h : Int) < 24) = false := decide_eq_false (by omega)
    go_enter Try.func23, Try.ntmps23
    go_upto_region 1 with fail
    go_quiet (((go_at_call 31; exact Calls.quiet_of_same (c13_mdays hy c1 c2))))
    go_wp2_with fail
    go_ret
    exact ⟨by rw [HE.out]; rfl, below_dN bel _⟩
  have g5 : decide ((h : Int) < 24) = true := decide_eq_true (by omega)
  by_cases c6 : i < 60
  rotate_left
  · have HE : Hid (exZ y m d h i s = false) := decide_eq_false (fun z => c6 z.2.2.2.2.2.1)
    have g6 : decide ((i : Int) < 60) = false := decide_eq_false (by omega)
    go_enter Try.func23, Try.ntmps23
    go_upto_region 1 with fail
    go_quiet (((go_at_call 31; exact Calls.quiet_of_same (c13_mdays hy c1 c2))))
    go_wp2_with fail
    go_ret
    exact ⟨by rw [HE.out]; rfl, below_dN bel _⟩
  have g6 : decide ((i : Int) < 60) = true := decide_eq_true (by omega)
  by_cases c7 : s < 60
  rotate_left
  · have HE : Hid (exZ y m d h i s = false) := decide_eq_false (fun z => c7 z.2.2.2.2.2.2)
    have g7 : decide ((s : Int) < 60) = false := decide_eq_false (by omega)
    go_enter Try.func23, Try.ntmps23
    go_upto_region 1 with fail
    go_quiet (((go_at_call 31; exact Calls.quiet_of_same (c13_mdays hy c1 c2))))
    go_wp2_with fail
    go_ret
    exact ⟨by rw [HE.out]; rfl, below_dN bel _⟩
  have g7 : decide ((s : Int) < 60) = true := decide_eq_true (by omega)
  have HE : Hid (exZ y m d h i s = true) := decide_eq_true ⟨c1, c2, c3, c4, c5, c6, c7⟩
  go_enter Try.func23, Try.ntmps23
  go_upto_region 1 with fail
  go_quiet (((go_at_call 31; exact Calls.quiet_of_same (c13_mdays hy c1 c2))))
  go_wp2_with fail
  go_ret
  exact ⟨by rw [HE.out]; rfl, below_dN bel _⟩
end Go.Proofs.Yteejcokpkginbab
