/- The reference's Bit: one of a number's bits. -/
import Derived.Test.YtflnfjekapngkaaDoorRows
import Derived.Test.YtflnfjekapngkaaDoorNum
namespace Go.Proofs.YtflnfjekapngkaaDoor
open Go.RowKit

/-- a bit of a digit is the number's -/
theorem digit_bit : ∀ (D : List Int) (q r : Nat), dig D → r < 32 → q < D.length → (v32 D).toNat / 2 ^ (32 * q + r) % 2 = (D.getD q 0).toNat / 2 ^ r % 2
  | [], q, r, _, _, h => absurd h (by simp)
  | d :: D, 0, r, hd, hr, _ => by
    obtain ⟨h0, hD⟩ := dig_cons hd
    have b := (v32_bound D hD).1
    have e : (v32 (d :: D)).toNat = d.toNat + 4294967296 * (v32 D).toNat := by
      show (d + 4294967296 * v32 D).toNat = _
      omega
    rw [e, Nat.mul_zero, Nat.zero_add, List.getD_cons_zero]
    have p : 4294967296 = 2 ^ r * (2 * 2 ^ (31 - r)) := by
      rw [← Nat.mul_assoc, Nat.mul_comm (2 ^ r) 2, ← Nat.pow_succ', ← Nat.pow_add, show r + 1 + (31 - r) = 32 by omega]
    rw [p, Nat.mul_assoc, Nat.add_mul_div_left _ _ (Nat.two_pow_pos r), Nat.mul_assoc, Nat.add_mul_mod_self_left]
  | d :: D, q + 1, r, hd, hr, h => by
    obtain ⟨h0, hD⟩ := dig_cons hd
    have b := (v32_bound D hD).1
    have e : (v32 (d :: D)).toNat = d.toNat + 4294967296 * (v32 D).toNat := by
      show (d + 4294967296 * v32 D).toNat = _
      omega
    have ih := digit_bit D q r hD hr (by simpa using h)
    rw [List.getD_cons_succ, ← ih, e, show 32 * (q + 1) + r = 32 + (32 * q + r) by omega, Nat.pow_add, ← Nat.div_div_eq_div_mul]
    congr 2
    rw [show (2 : Nat) ^ 32 = 4294967296 by decide, Nat.add_mul_div_left _ _ (by decide), Nat.div_eq_of_lt (by omega), Nat.zero_add]

theorem high_bit (D : List Int) (i : Nat) (hd : dig D) (h : D.length ≤ i / 32) : (v32 D).toNat / 2 ^ i % 2 = 0 := by
  have b := v32_bound D hd
  have p := (show (4294967296 : Int) ^ D.length ≤ 2 ^ i from by
    rw [show (4294967296 : Int) = 2 ^ 32 by decide, ← Int.pow_mul]
    have h2 : 32 * D.length ≤ i := by omega
    obtain ⟨c, hc⟩ : ∃ c, i = 32 * D.length + c := ⟨i - 32 * D.length, by omega⟩
    rw [hc, Int.pow_add]
    have q : (1 : Int) ≤ 2 ^ c := by
      have : (0 : Int) < 2 ^ c := Int.pow_pos (by decide)
      omega
    have q2 : (0 : Int) ≤ 2 ^ (32 * D.length) := Int.le_of_lt (Int.pow_pos (by decide))
    have := Int.mul_le_mul_of_nonneg_left q q2
    omega)
  have e : (v32 D).toNat < 2 ^ i := by
    have : ((v32 D).toNat : Int) < ((2 ^ i : Nat) : Int) := by
      rw [Int.toNat_of_nonneg b.1, Int.natCast_pow]
      show _ < (2 : Int) ^ i
      omega
    exact Int.ofNat_lt.1 this
  rw [Nat.div_eq_of_lt e]

set_option maxRecDepth 100000 in
set_option maxHeartbeats 1000000 in
theorem rbit_any (v : Value) (N : Int) (i : Nat) (w : World) (hv : NumIs w v N) (hi : i < 1000000) :
    Calls Tryd.prog 62 #[v, .int .i64 i] w fun e w' => e = .returned (.bool (decide (N.toNat / 2 ^ i % 2 = 1))) ∧ w' = w := by
  obtain ⟨D, sD, dD, tD, rfl⟩ := hv
  obtain ⟨ao, cap, rfl, m1, k1, f1⟩ := sD.form
  unfold maxLen at m1
  obtain ⟨l, hl⟩ : ∃ l, D.length = l := ⟨_, rfl⟩
  have HL : Hid _ := hl
  have q0 : (i : Int).tdiv 32 = ((i / 32 : Nat) : Int) := by rw [Int.tdiv_eq_ediv_of_nonneg (by omega)]; omega
  have q1 : (i : Int).tmod 32 = ((i % 32 : Nat) : Int) := by rw [Int.tmod_eq_emod_of_nonneg (by omega)]; omega
  by_cases hh : l ≤ i / 32
  · have E : Hid ((v32 D).toNat / 2 ^ i % 2 = 0) := high_bit D i dD (by omega)
    have E2 : decide ((v32 D).toNat / 2 ^ i % 2 = 1) = false := decide_eq_false (by rw [E.out]; decide)
    rw [E2, hl]
    clear E E2 f1 sD dD tD hl
    have g1 : (l : Int) ≤ ((i / 32 : Nat) : Int) := by omega
    have g0 : ¬ (i : Int) < 0 := by omega
    have l2 : l ≤ 9223372036854775807 := by omega
    go_enter Tryd.func62, Tryd.ntmps62
    go_wp2
    go_ret
    exact ⟨rfl, rfl⟩
  · obtain ⟨b, rfl, hb, hc⟩ := f1 (by omega)
    obtain ⟨q, hq⟩ : ∃ q, i / 32 = q := ⟨_, rfl⟩
    obtain ⟨r, hr⟩ : ∃ r, i % 32 = r := ⟨_, rfl⟩
    rw [hq] at q0 hh
    rw [hr] at q1
    obtain ⟨d, hd⟩ : ∃ d, D.getD q 0 = d := ⟨_, rfl⟩
    have xd := hc q (by omega)
    rw [hd] at xd
    have bd : 0 ≤ d ∧ d < 4294967296 := hd ▸ dD q
    have E : Hid ((v32 D).toNat / 2 ^ i % 2 = d.toNat / 2 ^ r % 2) := by
      show _ = _
      rw [← hd, ← digit_bit D q r dD (by omega) (by omega)]
      congr 3; omega
    rw [E.out, hl]
    have hi2 : r < 32 := by omega
    have g1 : ¬ (l : Int) ≤ (q : Int) := by omega
    have g2 : (q : Int) < (l : Int) := by omega
    have g3 : (0 : Int) ≤ (q : Int) := by omega
    have g0 : ¬ (i : Int) < 0 := by omega
    have l2 : l ≤ 9223372036854775807 := by omega
    clear E sD dD tD hl hc hd hq hr HL hh k1 m1 hb
    have S0 : Hid (d = d / 2 ^ 0) := by show _ = _; simp
    go_enter Tryd.func62, Tryd.ntmps62
    go_wp2
    go_loop [5, 6] (fun x kv => ∃ (k : Nat) (y : Int), k ≤ r ∧ kv = .int .i64 k ∧ x = .int .u64 y ∧ 0 ≤ y ∧ y < 4294967296 ∧ Hid (y = d / 2 ^ k)) (fun _ kv => r - (intOf kv).toNat)
    case atStart => exact ⟨0, d, by omega, rfl, rfl, bd.1, bd.2, S0⟩
    case round =>
      obtain ⟨k, y, hk, rfl, rfl, y0, y1, HY⟩ := hrel
      by_cases hlt : k < r
      · have t1 : y.tdiv 2 = y / 2 := Int.tdiv_eq_ediv_of_nonneg y0
        have t2 : IntKind.u64.wrap (y / 2) = y / 2 := by rw [IntKind.wrap_u64]; omega
        have h1 : (k : Int) < (r : Int) := by omega
        go_wp2
        go_round
        case rel => exact ⟨k + 1, y / 2, by omega, by go_num, rfl, by omega, by omega, by
          show y / 2 = d / 2 ^ (k + 1)
          rw [HY.out, Int.pow_succ, Int.ediv_ediv_of_nonneg (Int.le_of_lt (Int.pow_pos (by decide)))]⟩
        case measure => simp [intOf]; omega
      · have h1 : ¬ (k : Int) < (r : Int) := by omega
        have hk2 : k = r := by omega
        have t1 : y.tmod 2 = y % 2 := Int.tmod_eq_emod_of_nonneg y0
        have e1 : Hid (d.toNat / 2 ^ r % 2 = (y % 2).toNat) := by
          show _ = _
          rw [HY.out, hk2]
          have : d / 2 ^ r = ((d.toNat / 2 ^ r : Nat) : Int) := by
            rw [Int.natCast_ediv, Int.toNat_of_nonneg bd.1, Int.natCast_pow]; rfl
          rw [this]; omega
        rcases (show y % 2 = 0 ∨ y % 2 = 1 by omega) with h | h
        · have e2 : decide (d.toNat / 2 ^ r % 2 = 1) = false := decide_eq_false (by rw [e1.out, h]; decide)
          rw [h] at t1
          go_wp2
          go_ret
          exact ⟨rfl, rfl⟩
        · have e2 : decide (d.toNat / 2 ^ r % 2 = 1) = true := decide_eq_true (by rw [e1.out, h]; decide)
          rw [h] at t1
          go_wp2
          go_ret
          exact ⟨rfl, rfl⟩
end Go.Proofs.YtflnfjekapngkaaDoor
