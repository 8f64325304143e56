/- The program's daysAhead, monthDays, pairsUnder of layer 13. -/
import Derived.Test.YteejcokpkginbabRows
import Derived.Test.YteejcokpkginbabPrTimN
import Derived.Deep.OwnRows
import Derived.Deep.AppendLies
import Derived.Great.BuildSlice
import Derived.Deep.WholeRow
import Derived.Deep.RegionHeld3
import Derived.Deep.DeepCutAuto
import Derived.Deep.DeepFit
namespace Go.Proofs.Yteejcokpkginbab
open Go.RowKit

set_option linter.unusedSimpArgs false in
set_option maxRecDepth 100000 in
set_option maxHeartbeats 1000000 in
theorem c13_ahead {y : Nat} {w : World} (hy : y ≤ 100001) :
    Calls Try.prog 32 #[.int .i64 (y : Int)] w fun e w' => e = .returned (.int .i64 (aheadZ y)) ∧ w' = w := by
  by_cases c0 : y = 0
  · have HA : Hid (aheadZ y = -365) := by show _ = _; rw [c0]; rfl
    have g0 : (y : Int) = 0 := by omega
    clear c0
    have w0 : IntKind.i64.wrap (-1) = -1 := by decide
    go_enter Try.func32, Try.ntmps32
    go_wp2_with fail
    go_ret
    exact ⟨by rw [HA.out]; rfl, rfl⟩
  have HA : Hid _ := ahead_is (y := y) (by omega)
  have HZ : Hid (aheadZ y = ahead y) := aheadZ_pos (by omega)
  obtain ⟨n, hn⟩ : ∃ n, y - 1 = n := ⟨_, rfl⟩
  have w1 : IntKind.i64.wrap ((y : Int) - 1) = (n : Int) := by rw [IntKind.wrap_i64]; omega
  rw [hn] at HA
  have hm : ((y : Int) - 1) = (n : Int) := by omega
  rw [hm] at HA
  have t1 : (n : Int).tdiv 4 = ((n / 4 : Nat) : Int) := by rw [Int.tdiv_eq_ediv_of_nonneg (by omega)]; omega
  have t2 : (n : Int).tdiv 100 = ((n / 100 : Nat) : Int) := by rw [Int.tdiv_eq_ediv_of_nonneg (by omega)]; omega
  have t3 : (n : Int).tdiv 400 = ((n / 400 : Nat) : Int) := by rw [Int.tdiv_eq_ediv_of_nonneg (by omega)]; omega
  have b1 : n / 4 ≤ n := Nat.div_le_self _ _
  have b2 : n / 100 ≤ n := Nat.div_le_self _ _
  have b3 : n / 400 ≤ n := Nat.div_le_self _ _
  have hn2 : n ≤ 100001 := by omega
  have t4 : (n : Int) / 4 = ((n / 4 : Nat) : Int) := by omega
  have t5 : (n : Int) / 100 = ((n / 100 : Nat) : Int) := by omega
  have t6 : (n : Int) / 400 = ((n / 400 : Nat) : Int) := by omega
  obtain ⟨a, ha⟩ : ∃ a, n / 4 = a := ⟨_, rfl⟩
  obtain ⟨b, hb⟩ : ∃ a, n / 100 = a := ⟨_, rfl⟩
  obtain ⟨c, hc⟩ : ∃ a, n / 400 = a := ⟨_, rfl⟩
  rw [ha] at t1 t4 b1 HA
  rw [hb] at t2 t5 b2 HA
  rw [hc] at t3 t6 b3 HA
  clear ha hb hc hn hm hy
  obtain ⟨m, hm⟩ : ∃ m, (n : Int) * 365 = m := ⟨_, rfl⟩
  have w2 : IntKind.i64.wrap ((n : Int) * 365) = m := by rw [IntKind.wrap_i64]; omega
  obtain ⟨s1, hs1⟩ : ∃ s, m + (a : Int) = s := ⟨_, rfl⟩
  have w3 : IntKind.i64.wrap (m + (a : Int)) = s1 := by rw [IntKind.wrap_i64]; omega
  obtain ⟨s2, hs2⟩ : ∃ s, s1 - (b : Int) = s := ⟨_, rfl⟩
  have w4 : IntKind.i64.wrap (s1 - (b : Int)) = s2 := by rw [IntKind.wrap_i64]; omega
  obtain ⟨s3, hs3⟩ : ∃ s, s2 + (c : Int) = s := ⟨_, rfl⟩
  have w5 : IntKind.i64.wrap (s2 + (c : Int)) = s3 := by rw [IntKind.wrap_i64]; omega
  have w6 : IntKind.i64.wrap (a : Int) = (a : Int) := by rw [IntKind.wrap_i64]; omega
  have w7 : IntKind.i64.wrap (b : Int) = (b : Int) := by rw [IntKind.wrap_i64]; omega
  have w8 : IntKind.i64.wrap (c : Int) = (c : Int) := by rw [IntKind.wrap_i64]; omega
  have HE : Hid (aheadZ y = s3) := by show _ = _; rw [HZ.out, ← HA.out]; omega
  clear HA HZ hm hs1 hs2 hs3 c0
  go_enter Try.func32, Try.ntmps32
  go_wp2_with fail
  go_ret
  exact ⟨by rw [HE.out]; rfl, rfl⟩
set_option linter.unusedSimpArgs false in
set_option maxRecDepth 100000 in
set_option maxHeartbeats 1000000 in
theorem c13_mdays {y m : Nat} {w : World} (hy : y ≤ 99999) (h1 : 1 ≤ m) (h2 : m ≤ 12) :
    Calls Try.prog 31 #[.int .i64 (y : Int), .int .i64 (m : Int)] w fun e w' => e = .returned (.int .i64 (mdZ y m)) ∧ w' = w := by
  by_cases c2 : m = 2
  · have HE : Hid (mdZ y m = 28 + aheadZ (y + 1) - aheadZ y - 365) := by show _ = _; rw [c2, mdZ_2]
    have g2 : ((m : Int) == 2) = true := by rw [c2]; rfl
    have a1 := aheadZ_bd (y := y + 1) (by omega)
    have a2 := aheadZ_bd (y := y) (by omega)
    have b2 : (m : Int) = 2 := by omega
    clear c2
    obtain ⟨y1, hy1⟩ : ∃ z, y + 1 = z := ⟨_, rfl⟩
    have w1 : IntKind.i64.wrap ((y : Int) + 1) = (y1 : Int) := by rw [IntKind.wrap_i64]; omega
    rw [hy1] at HE a1
    go_enter Try.func31, Try.ntmps31
    go_wp2_with fail
    refine (c13_ahead (y := y1) (by omega)).mono ?_
    rintro e w1 ⟨rfl, rfl⟩
    obtain ⟨p, hp⟩ : ∃ z, aheadZ y1 = z := ⟨_, rfl⟩
    rw [hp] at HE a1 ⊢
    have w2 : IntKind.i64.wrap (28 + p) = 28 + p := by rw [IntKind.wrap_i64]; omega
    clear hp hy1
    go_wp2_with fail
    refine (c13_ahead (y := y) (by omega)).mono ?_
    rintro e w3 ⟨rfl, rfl⟩
    obtain ⟨q, hq⟩ : ∃ z, aheadZ y = z := ⟨_, rfl⟩
    rw [hq] at HE a2 ⊢
    have w4 : IntKind.i64.wrap (28 + p - q) = 28 + p - q := by rw [IntKind.wrap_i64]; omega
    have w5 : IntKind.i64.wrap (28 + p - q - 365) = 28 + p - q - 365 := by rw [IntKind.wrap_i64]; omega
    clear hq
    go_wp2_with fail
    go_ret
    exact ⟨by rw [HE.out]; rfl, rfl⟩
  have HN : Hid (mdZ y m = ((daysN y m : Nat) : Int)) := mdZ_not2 c2
  have n2 : ((m : Int) == 2) = false := by rw [beq_eq_false_iff_ne]; omega
  have i2 : ¬ (m : Int) = 2 := by omega
  by_cases c30 : m = 4 ∨ m = 6 ∨ m = 9 ∨ m = 11
  · have HE : Hid (mdZ y m = 30) := by show _ = _; rw [HN.out, days_30 c30]; rfl
    rcases c30 with c | c | c | c
    · have d4 : (m : Int) = 4 := by omega
      clear c c2
      go_enter Try.func31, Try.ntmps31
      go_wp2_with fail
      go_ret
      exact ⟨by rw [HE.out]; rfl, rfl⟩
    · have d6 : (m : Int) = 6 := by omega
      clear c c2
      go_enter Try.func31, Try.ntmps31
      go_wp2_with fail
      go_ret
      exact ⟨by rw [HE.out]; rfl, rfl⟩
    · have d9 : (m : Int) = 9 := by omega
      clear c c2
      go_enter Try.func31, Try.ntmps31
      go_wp2_with fail
      go_ret
      exact ⟨by rw [HE.out]; rfl, rfl⟩
    · have d11 : (m : Int) = 11 := by omega
      clear c c2
      go_enter Try.func31, Try.ntmps31
      go_wp2_with fail
      go_ret
      exact ⟨by rw [HE.out]; rfl, rfl⟩
  · have HE : Hid (mdZ y m = 31) := by show _ = _; rw [HN.out, days_31 h1 h2 (by omega)]; rfl
    have i4 : ¬ (m : Int) = 4 := by omega
    have i6 : ¬ (m : Int) = 6 := by omega
    have i9 : ¬ (m : Int) = 9 := by omega
    have i11 : ¬ (m : Int) = 11 := by omega
    clear c30 c2
    go_enter Try.func31, Try.ntmps31
    go_wp2_with fail
    go_ret
    exact ⟨by rw [HE.out]; rfl, rfl⟩
set_option linter.unusedSimpArgs false in
set_option maxRecDepth 100000 in
set_option maxHeartbeats 400000 in
theorem c13_under23 {w : World} : Calls Try.prog 21 #[.int .i64 23] w fun e w' => e = .returned (.int .i64 6) ∧ w' = w := by
  go_enter Try.func21, Try.ntmps21
  go_wp2_with fail
  go_ret
  exact ⟨rfl, rfl⟩
set_option linter.unusedSimpArgs false in
set_option maxRecDepth 100000 in
set_option maxHeartbeats 400000 in
theorem c13_under24 {w : World} : Calls Try.prog 21 #[.int .i64 24] w fun e w' => e = .returned (.int .i64 7) ∧ w' = w := by
  go_enter Try.func21, Try.ntmps21
  go_wp2_with fail
  go_ret
  exact ⟨rfl, rfl⟩
end Go.Proofs.Yteejcokpkginbab
