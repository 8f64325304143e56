/- The document's Product and Substitute. -/
import Derived.Test.YtogbmekgmjmonaaRows
import Derived.Test.YtogbmekgmjmonaaAeNumG
import Derived.Deep.WholeRow
import Derived.Deep.RegionHeld3
import Derived.Deep.DeepCutAuto
import Derived.Deep.DeepFit
namespace Go.Proofs.Ytogbmekgmjmonaa
open Go.RowKit

theorem bit_cases (x k : Nat) : ((x : Int) / 2 ^ k).tmod 2 = ((x / 2 ^ k % 2 : Nat) : Int) := by
  rw [Int.tmod_eq_emod_of_nonneg (Int.ediv_nonneg (by omega) (Int.le_of_lt (Int.pow_pos (by decide))))]
  have e : ((x : Int) / 2 ^ k) = ((x / 2 ^ k : Nat) : Int) := by simp
  rw [e]
  omega
theorem shl_nat {x k : Nat} (hx : x < 512) (hk : k ≤ 8) : IntKind.i64.wrap ((x : Int) * 2 ^ k) = ((x * 2 ^ k : Nat) : Int) := by
  have e : ((x : Int) * 2 ^ k) = ((x * 2 ^ k : Nat) : Int) := by simp
  have : 2 ^ k ≤ 2 ^ 8 := Nat.pow_le_pow_right (by decide) hk
  have := Nat.mul_lt_mul_of_lt_of_le hx this (by decide)
  rw [e, IntKind.wrap_i64]
  omega

set_option maxRecDepth 100000 in
set_option maxHeartbeats 1000000 in
theorem r9_Product {a b : Nat} {w : World} (ha : a < 256) (hb : b < 256) :
    Calls Try.prog 27 #[.int .u8 (a : Int), .int .u8 (b : Int)] w fun e w' => e = .returned (.int .u8 ((prdN a b : Nat) : Int)) ∧ w' = w := by
  have wa : IntKind.i64.wrap (a : Int) = (a : Int) := by rw [IntKind.wrap_i64]; omega
  have wb : IntKind.i64.wrap (b : Int) = (b : Int) := by rw [IntKind.wrap_i64]; omega
  go_enter Try.func27, Try.ntmps27
  go_wp2_with fail
  go_loop [5, 6] (fun pv iv => ∃ k : Nat, k ≤ 8 ∧ iv = .int .i64 k ∧ pv = .int .i64 ((polN a b k : Nat) : Int)) (fun _ iv => 8 - (intOf iv).toNat)
  case atStart => exact ⟨0, by omega, rfl, rfl⟩
  case round =>
    obtain ⟨k, hk, rfl, rfl⟩ := hrel
    by_cases hlt : k < 8
    · have g1 : (k : Int) < 8 := by omega
      have g2 : ¬ (k : Int) < 0 := by omega
      have t1 := bit_cases b k
      have pl := polN_lt (b := b) ha k (by omega)
      have HS : Hid (polN a b (k + 1) = if b / 2 ^ k % 2 = 1 then polN a b k ^^^ (a * 2 ^ k) else polN a b k) := rfl
      have hc : b / 2 ^ k % 2 < 2 := Nat.mod_lt _ (by decide)
      have w1 := shl_nat (x := a) (k := k) (by omega) (by omega)
      have sl : a * 2 ^ k < 131072 := by
        have : 2 ^ k ≤ 2 ^ 8 := Nat.pow_le_pow_right (by decide) hk
        have := Nat.mul_lt_mul_of_lt_of_le ha this (by decide)
        omega
      have x1 := i64_xor_nat (polN a b k) (a * 2 ^ k) (by omega) (by omega)
      obtain ⟨c, hcc⟩ : ∃ c, b / 2 ^ k % 2 = c := ⟨_, rfl⟩
      obtain ⟨p, hp⟩ : ∃ p, polN a b k = p := ⟨_, rfl⟩
      obtain ⟨s, hs⟩ : ∃ s, a * 2 ^ k = s := ⟨_, rfl⟩
      rw [hcc] at t1 hc HS
      rw [hs] at w1 x1 HS
      rw [hp] at x1 HS ⊢
      clear hcc hs hp pl sl
      by_cases hc1 : c = 1
      · subst hc1
        have HS1 : Hid (polN a b (k + 1) = p ^^^ s) := by rw [HS.out, if_pos rfl]; rfl
        clear HS hc
        go_wp2_with fail
        go_round
        case rel => exact ⟨k + 1, by omega, by go_num, by rw [HS1.out]⟩
        case measure => simp [intOf]; omega
      · obtain rfl : c = 0 := by omega
        have HS1 : Hid (polN a b (k + 1) = p) := by rw [HS.out, if_neg (by decide)]; rfl
        clear HS hc
        go_wp2_with fail
        go_round
        case rel => exact ⟨k + 1, by omega, by go_num, by rw [HS1.out]⟩
        case measure => simp [intOf]; omega
    · have HK : Hid (k = 8) := by show k = 8; omega
      have g1 : (8 : Int) ≤ (k : Int) := by omega
      have p8 := polN_lt (b := b) ha 8 (Nat.le_refl _)
      have HP : Hid (restN (polN a b 8) 7 % 256 = prdN a b) := rfl
      obtain ⟨p, hp⟩ : ∃ p, polN a b 8 = p := ⟨_, rfl⟩
      have hp2 : polN a b k = p := by rw [HK.out]; exact hp
      rw [hp] at p8 HP
      rw [hp2]
      clear hp hp2
      go_wp2_with fail
      go_loop [5, 7] (fun pv iv => ∃ j : Nat, j ≤ 7 ∧ iv = .int .i64 (14 - (j : Int)) ∧ pv = .int .i64 ((restN p j : Nat) : Int)) (fun _ iv => (intOf iv).toNat)
      case atStart => exact ⟨0, by omega, rfl, rfl⟩
      case round =>
        clear HK g1
        obtain ⟨j, hj, rfl, rfl⟩ := hrel
        by_cases hlt : j < 7
        · have g1 : (8 : Int) ≤ 14 - (j : Int) := by omega
          have g2 : ¬ 14 - (j : Int) < 0 := by omega
          have g3 : (14 - (j : Int)).toNat = 14 - j := by omega
          have g4 : IntKind.i64.wrap (14 - (j : Int) - 8) = 6 - (j : Int) := by rw [IntKind.wrap_i64]; omega
          have g5 : ¬ 6 - (j : Int) < 0 := by omega
          have g6 : (6 - (j : Int)).toNat = 6 - j := by omega
          have g7 : IntKind.i64.wrap (14 - (j : Int) - 1) = 14 - ((j + 1 : Nat) : Int) := by rw [IntKind.wrap_i64]; omega
          have t1 := bit_cases (restN p j) (14 - j)
          have pl := restN_lt p8 j (by omega)
          have HS : Hid (restN p (j + 1) = if restN p j / 2 ^ (14 - j) % 2 = 1 then restN p j ^^^ (283 * 2 ^ (6 - j)) else restN p j) := rfl
          have hc : restN p j / 2 ^ (14 - j) % 2 < 2 := Nat.mod_lt _ (by decide)
          have w1 : IntKind.i64.wrap (283 * 2 ^ (6 - j)) = ((283 * 2 ^ (6 - j) : Nat) : Int) := shl_nat (x := 283) (k := 6 - j) (by omega) (by omega)
          have sl : 283 * 2 ^ (6 - j) < 131072 := by
            have : 2 ^ (6 - j) ≤ 2 ^ 6 := Nat.pow_le_pow_right (by decide) (by omega)
            omega
          have x1 := i64_xor_nat (restN p j) (283 * 2 ^ (6 - j)) (by omega) (by omega)
          obtain ⟨c, hcc⟩ : ∃ c, restN p j / 2 ^ (14 - j) % 2 = c := ⟨_, rfl⟩
          obtain ⟨r, hr⟩ : ∃ p', restN p j = p' := ⟨_, rfl⟩
          obtain ⟨s, hs⟩ : ∃ s, 283 * 2 ^ (6 - j) = s := ⟨_, rfl⟩
          rw [hcc] at t1 hc HS
          rw [hs] at w1 x1 HS
          rw [hr] at t1 x1 HS ⊢
          clear hcc hs hr pl sl
          by_cases hc1 : c = 1
          · subst hc1
            have HS1 : Hid (restN p (j + 1) = r ^^^ s) := by rw [HS.out, if_pos rfl]; rfl
            clear HS hc
            go_wp2_with fail
            go_round
            case rel => exact ⟨j + 1, by omega, rfl, by rw [HS1.out]⟩
            case measure => simp [intOf]; omega
          · obtain rfl : c = 0 := by omega
            have HS1 : Hid (restN p (j + 1) = r) := by rw [HS.out, if_neg (by decide)]; rfl
            clear HS hc
            go_wp2_with fail
            go_round
            case rel => exact ⟨j + 1, by omega, rfl, by rw [HS1.out]⟩
            case measure => simp [intOf]; omega
        · have HJ : Hid (j = 7) := by show j = 7; omega
          have g1 : ¬ (8 : Int) ≤ 14 - (j : Int) := by omega
          have w1 : IntKind.u8.wrap ((restN p j : Nat) : Int) = ((prdN a b : Nat) : Int) := by
            rw [IntKind.wrap_u8, ← HP.out, HJ.out]
            omega
          go_wp2_with fail
          go_ret
          exact ⟨rfl, rfl⟩

set_option maxRecDepth 100000 in
set_option maxHeartbeats 2000000 in
theorem r9_Substitute {a : Nat} {w : World} (ha : a < 256) :
    Calls Try.prog 18 #[.int .u8 (a : Int)] w fun e w' => e = .returned (.int .u8 ((subN a : Nat) : Int)) ∧ w' = w := by
  go_enter Try.func18, Try.ntmps18
  go_wp2_with fail
  go_loopw [3, 4] (fun vv iv wx => ∃ k : Nat, k ≤ 255 ∧ iv = .int .i64 ((k : Int) + 1) ∧ vv = .int .u8 ((invN a k : Nat) : Int) ∧ wx = w) (fun _ iv _ => 256 - (intOf iv).toNat)
  case atStart => exact ⟨0, by omega, rfl, rfl, rfl⟩
  case round =>
    obtain ⟨k, hk, rfl, rfl, hw⟩ := hrel
    rw [hw]
    have HW : Hid (wr = w) := hw
    clear hw
    by_cases hlt : k < 255
    · have g1 : (k : Int) + 1 < 256 := by omega
      have w1 : IntKind.u8.wrap ((k : Int) + 1) = ((k + 1 : Nat) : Int) := by rw [IntKind.wrap_u8]; omega
      have HS : Hid (invN a (k + 1) = if prdN a (k + 1) = 1 then k + 1 else invN a k) := rfl
      go_wp2_with fail
      refine (r9_Product ha (show k + 1 < 256 by omega)).mono ?_
      rintro e w2 ⟨rfl, hw2⟩
      rw [hw2]
      clear hw2
      by_cases h1 : prdN a (k + 1) = 1
      · have g2 : ((prdN a (k + 1) : Nat) : Int) = 1 := by omega
        have HS1 : Hid (invN a (k + 1) = k + 1) := by rw [HS.out, if_pos h1]; rfl
        clear HS h1
        go_wp2_with fail
        go_roundw
        case rel => exact ⟨k + 1, by omega, by go_num, by rw [HS1.out]; rfl, trivial⟩
        case measure => simp [intOf]; omega
      · have g2 : ¬ ((prdN a (k + 1) : Nat) : Int) = 1 := by omega
        have HS1 : Hid (invN a (k + 1) = invN a k) := by rw [HS.out, if_neg h1]; rfl
        clear HS h1
        go_wp2_with fail
        go_roundw
        case rel => exact ⟨k + 1, by omega, by go_num, by rw [HS1.out], trivial⟩
        case measure => simp [intOf]; omega
    · have HK : Hid (k = 255) := by show k = 255; omega
      have g1 : ¬ (k : Int) + 1 < 256 := by omega
      have v1 := invN_lt a 255
      have HV : Hid (affN (invN a 255) 8 = subN a) := rfl
      obtain ⟨v, hv⟩ : ∃ v, invN a 255 = v := ⟨_, rfl⟩
      have hv2 : invN a k = v := by rw [HK.out]; exact hv
      rw [hv] at v1 HV
      rw [hv2]
      clear hv hv2 HW
      have wv : IntKind.i64.wrap (v : Int) = (v : Int) := by rw [IntKind.wrap_i64]; omega
      go_wp2_with fail
      go_loop [5, 6] (fun ov iv => ∃ i : Nat, i ≤ 8 ∧ iv = .int .i64 i ∧ ov = .int .i64 ((affN v i : Nat) : Int)) (fun _ iv => 8 - (intOf iv).toNat)
      case atStart => exact ⟨0, by omega, rfl, rfl⟩
      case round =>
        clear HK g1
        obtain ⟨i, hi, rfl, rfl⟩ := hrel
        by_cases hil : i < 8
        · have g1 : (i : Int) < 8 := by omega
          have g2 : ¬ (i : Int) < 0 := by omega
          have HS : Hid (affN v (i + 1) = affN v i + bitN v i * 2 ^ i) := rfl
          have HB : Hid (bitN v i < 2) := Nat.mod_lt _ (by decide)
          have al := affN_lt v i
          have p7 : 2 ^ i ≤ 2 ^ 7 := Nat.pow_le_pow_right (by decide) (by omega)
          have wl := shl_nat (x := bitN v i) (k := i) (by have := HB.out; omega) (by omega)
          have sl : bitN v i * 2 ^ i ≤ 128 := by
            have := Nat.mul_le_mul (Nat.le_of_lt_succ HB.out) p7
            omega
          have wo : IntKind.i64.wrap (((affN v i : Nat) : Int) + ((bitN v i * 2 ^ i : Nat) : Int)) = ((affN v (i + 1) : Nat) : Int) := by
            rw [HS.out, IntKind.wrap_i64]
            omega
          have HBit : Hid (bitN v i = (99 / 2 ^ i % 2 + v / 2 ^ i % 2 + v / 2 ^ ((i + 4) % 8) % 2 + v / 2 ^ ((i + 5) % 8) % 2 + v / 2 ^ ((i + 6) % 8) % 2 + v / 2 ^ ((i + 7) % 8) % 2) % 2) := rfl
          have t0 : ((99 : Int) / 2 ^ i).tmod 2 = ((99 / 2 ^ i % 2 : Nat) : Int) := bit_cases 99 i
          have b0 : 99 / 2 ^ i % 2 < 2 := Nat.mod_lt _ (by decide)
          have t1 := bit_cases v i
          have b1 : v / 2 ^ i % 2 < 2 := Nat.mod_lt _ (by decide)
          obtain ⟨x0, e0⟩ : ∃ c, 99 / 2 ^ i % 2 = c := ⟨_, rfl⟩
          obtain ⟨x1, e1⟩ : ∃ c, v / 2 ^ i % 2 = c := ⟨_, rfl⟩
          rw [e0] at t0 b0 HBit
          rw [e1] at t1 b1 HBit
          clear e0 e1
          have i4 : IntKind.i64.wrap ((i : Int) + 4) = (i : Int) + 4 := by rw [IntKind.wrap_i64]; omega
          have m4 : ((i : Int) + 4).tmod 8 = (((i + 4) % 8 : Nat) : Int) := by rw [Int.tmod_eq_emod_of_nonneg (by omega)]; omega
          have q4 : ¬ (((i + 4) % 8 : Nat) : Int) < 0 := by omega
          have t4 := bit_cases v ((i + 4) % 8)
          have b4 : v / 2 ^ ((i + 4) % 8) % 2 < 2 := Nat.mod_lt _ (by decide)
          obtain ⟨x4, e4⟩ : ∃ c, v / 2 ^ ((i + 4) % 8) % 2 = c := ⟨_, rfl⟩
          rw [e4] at t4 b4 HBit
          obtain ⟨n4, f4⟩ : ∃ c, (i + 4) % 8 = c := ⟨_, rfl⟩
          rw [f4] at m4 q4 t4
          have r4 : min n4 64 = n4 := Nat.min_eq_left (by omega)
          clear e4 f4
          have i5 : IntKind.i64.wrap ((i : Int) + 5) = (i : Int) + 5 := by rw [IntKind.wrap_i64]; omega
          have m5 : ((i : Int) + 5).tmod 8 = (((i + 5) % 8 : Nat) : Int) := by rw [Int.tmod_eq_emod_of_nonneg (by omega)]; omega
          have q5 : ¬ (((i + 5) % 8 : Nat) : Int) < 0 := by omega
          have t5 := bit_cases v ((i + 5) % 8)
          have b5 : v / 2 ^ ((i + 5) % 8) % 2 < 2 := Nat.mod_lt _ (by decide)
          obtain ⟨x5, e5⟩ : ∃ c, v / 2 ^ ((i + 5) % 8) % 2 = c := ⟨_, rfl⟩
          rw [e5] at t5 b5 HBit
          obtain ⟨n5, f5⟩ : ∃ c, (i + 5) % 8 = c := ⟨_, rfl⟩
          rw [f5] at m5 q5 t5
          have r5 : min n5 64 = n5 := Nat.min_eq_left (by omega)
          clear e5 f5
          have i6 : IntKind.i64.wrap ((i : Int) + 6) = (i : Int) + 6 := by rw [IntKind.wrap_i64]; omega
          have m6 : ((i : Int) + 6).tmod 8 = (((i + 6) % 8 : Nat) : Int) := by rw [Int.tmod_eq_emod_of_nonneg (by omega)]; omega
          have q6 : ¬ (((i + 6) % 8 : Nat) : Int) < 0 := by omega
          have t6 := bit_cases v ((i + 6) % 8)
          have b6 : v / 2 ^ ((i + 6) % 8) % 2 < 2 := Nat.mod_lt _ (by decide)
          obtain ⟨x6, e6⟩ : ∃ c, v / 2 ^ ((i + 6) % 8) % 2 = c := ⟨_, rfl⟩
          rw [e6] at t6 b6 HBit
          obtain ⟨n6, f6⟩ : ∃ c, (i + 6) % 8 = c := ⟨_, rfl⟩
          rw [f6] at m6 q6 t6
          have r6 : min n6 64 = n6 := Nat.min_eq_left (by omega)
          clear e6 f6
          have i7 : IntKind.i64.wrap ((i : Int) + 7) = (i : Int) + 7 := by rw [IntKind.wrap_i64]; omega
          have m7 : ((i : Int) + 7).tmod 8 = (((i + 7) % 8 : Nat) : Int) := by rw [Int.tmod_eq_emod_of_nonneg (by omega)]; omega
          have q7 : ¬ (((i + 7) % 8 : Nat) : Int) < 0 := by omega
          have t7 := bit_cases v ((i + 7) % 8)
          have b7 : v / 2 ^ ((i + 7) % 8) % 2 < 2 := Nat.mod_lt _ (by decide)
          obtain ⟨x7, e7⟩ : ∃ c, v / 2 ^ ((i + 7) % 8) % 2 = c := ⟨_, rfl⟩
          rw [e7] at t7 b7 HBit
          obtain ⟨n7, f7⟩ : ∃ c, (i + 7) % 8 = c := ⟨_, rfl⟩
          rw [f7] at m7 q7 t7
          have r7 : min n7 64 = n7 := Nat.min_eq_left (by omega)
          clear e7 f7
          have s1 : IntKind.i64.wrap ((x0 : Int) + (x1 : Int)) = (x0 : Int) + (x1 : Int) := by rw [IntKind.wrap_i64]; omega
          have s4 : IntKind.i64.wrap ((x0 : Int) + (x1 : Int) + (x4 : Int)) = (x0 : Int) + (x1 : Int) + (x4 : Int) := by rw [IntKind.wrap_i64]; omega
          have s5 : IntKind.i64.wrap ((x0 : Int) + (x1 : Int) + (x4 : Int) + (x5 : Int)) = (x0 : Int) + (x1 : Int) + (x4 : Int) + (x5 : Int) := by rw [IntKind.wrap_i64]; omega
          have s6 : IntKind.i64.wrap ((x0 : Int) + (x1 : Int) + (x4 : Int) + (x5 : Int) + (x6 : Int)) = (x0 : Int) + (x1 : Int) + (x4 : Int) + (x5 : Int) + (x6 : Int) := by rw [IntKind.wrap_i64]; omega
          have s7 : IntKind.i64.wrap ((x0 : Int) + (x1 : Int) + (x4 : Int) + (x5 : Int) + (x6 : Int) + (x7 : Int)) = (x0 : Int) + (x1 : Int) + (x4 : Int) + (x5 : Int) + (x6 : Int) + (x7 : Int) := by rw [IntKind.wrap_i64]; omega
          have sb : ((x0 : Int) + (x1 : Int) + (x4 : Int) + (x5 : Int) + (x6 : Int) + (x7 : Int)).tmod 2 = ((bitN v i : Nat) : Int) := by
            rw [Int.tmod_eq_emod_of_nonneg (by omega), HBit.out]
            omega
          obtain ⟨y, hy⟩ : ∃ y, bitN v i = y := ⟨_, rfl⟩
          obtain ⟨z, hz⟩ : ∃ z, bitN v i * 2 ^ i = z := ⟨_, rfl⟩
          rw [hz] at wl wo
          rw [hy] at sb wl
          clear hz hy HS HB al p7 sl HBit b0 b1 b4 b5 b6 b7
          go_wp2_with fail
          go_round
          case rel => exact ⟨i + 1, by omega, by go_num, rfl⟩
          case measure => simp [intOf]; omega
        · have HI : Hid (i = 8) := by show i = 8; omega
          have g1 : (8 : Int) ≤ (i : Int) := by omega
          have al := affN_lt v i
          have w1 : IntKind.u8.wrap ((affN v i : Nat) : Int) = ((subN a : Nat) : Int) := by
            rw [IntKind.wrap_u8, ← HV.out, HI.out]
            have := affN_lt v 8
            omega
          clear al
          go_wp2_with fail
          go_ret
          exact ⟨rfl, rfl⟩
end Go.Proofs.Ytogbmekgmjmonaa
