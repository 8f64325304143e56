/- The reference's Bits: how many bits a number has. -/
import Derived.Test.YtflnfjekapngkaaDoorRows
import Derived.Test.YtflnfjekapngkaaDoorNum
namespace Go.Proofs.YtflnfjekapngkaaDoor
open Go.RowKit

theorem pow2_pos (k : Nat) : (0 : Int) < 2 ^ k := Int.pow_pos (by decide)

theorem pow2_mono (a b : Nat) (h : a ≤ b) : (2 : Int) ^ a ≤ 2 ^ b := by
  obtain ⟨c, rfl⟩ : ∃ c, b = a + c := ⟨b - a, by omega⟩
  have p := pow2_pos c
  have := Int.mul_le_mul_of_nonneg_left (show (1 : Int) ≤ 2 ^ c by omega) (Int.le_of_lt (pow2_pos a))
  rw [Int.pow_add]
  omega

theorem pow32_two (m : Nat) : (4294967296 : Int) ^ m = 2 ^ (32 * m) := by
  rw [Int.pow_mul]; rfl

/-- n is how many bits N has -/
def bitsAre (N : Int) (n : Nat) : Prop := N < 2 ^ n ∧ (0 < n → (2 : Int) ^ (n - 1) ≤ N)

/-- a step of the count -/
def halved (t x : Int) (j : Nat) : Prop := 0 ≤ x ∧ t < 2 ^ j * (x + 1) ∧ 2 ^ j * x ≤ t ∧ (0 < j → (2 : Int) ^ (j - 1) ≤ t)

theorem halved_step (t x : Int) (j : Nat) (hx : 0 < x) (h : halved t x j) : halved t (x / 2) (j + 1) := by
  obtain ⟨h0, h1, h2, _⟩ := h
  have p := pow2_pos j
  have a1 : 2 ^ j * (x + 1) ≤ 2 ^ j * (2 * (x / 2 + 1)) := Int.mul_le_mul_of_nonneg_left (by omega) (by omega)
  have a2 : 2 ^ j * (2 * (x / 2)) ≤ 2 ^ j * x := Int.mul_le_mul_of_nonneg_left (by omega) (by omega)
  have a3 : (2 : Int) ^ j * 1 ≤ 2 ^ j * x := Int.mul_le_mul_of_nonneg_left (by omega) (by omega)
  refine ⟨by omega, ?_, ?_, ?_⟩
  · rw [Int.pow_succ, Int.mul_assoc]; omega
  · rw [Int.pow_succ, Int.mul_assoc]; omega
  · intro _
    show (2 : Int) ^ j ≤ t
    omega

theorem halved_small (t x : Int) (j : Nat) (ht : t < 4294967296) (h : halved t x j) : j ≤ 32 := by
  obtain ⟨_, _, _, h3⟩ := h
  rcases Nat.lt_or_ge 32 j with hj | hj
  · have := h3 (by omega)
    have q := pow2_mono 32 (j - 1) (by omega)
    have e : (2 : Int) ^ 32 = 4294967296 := by decide
    omega
  · exact hj

theorem halved_end (D : List Int) (hD : dig D) (hT : trd D) (l j : Nat) (hl : D.length = l) (h0 : 0 < l) (h : halved (D.getD (l - 1) 0) 0 j) : bitsAre (v32 D) (32 * (l - 1) + j) := by
  obtain ⟨_, h1, _, h3⟩ := h
  have b := v32_bound (D.take (l - 1)) (dig_take hD _)
  have e1 : (D.take (l - 1)).length = l - 1 := by simp; omega
  rw [e1] at b
  have hs := pv_drop 4294967296 D (l - 1) (by omega)
  rw [List.drop_of_length_le (by omega)] at hs
  simp only [pv] at hs
  have ht := hT (by omega)
  rw [hl] at ht
  have hd := hD (l - 1)
  have p := pow2_pos (32 * (l - 1))
  have hj : 0 < j := by
    rcases Nat.eq_zero_or_pos j with rfl | hj
    · rw [show (2 : Int) ^ 0 = 1 from rfl] at h1; omega
    · exact hj
  have h3' := h3 hj
  simp only [v32] at *
  rw [hs]
  rw [pow32_two] at *
  generalize D.getD (l - 1) 0 = t at *
  constructor
  · rw [Int.pow_add]
    have : 2 ^ (32 * (l - 1)) * (t + 1) ≤ 2 ^ (32 * (l - 1)) * 2 ^ j := Int.mul_le_mul_of_nonneg_left (by omega) (by omega)
    rw [Int.mul_add] at this
    simp only [Int.mul_zero, Int.add_zero]
    omega
  · intro _
    rw [show 32 * (l - 1) + j - 1 = 32 * (l - 1) + (j - 1) by omega, Int.pow_add]
    have : 2 ^ (32 * (l - 1)) * 2 ^ (j - 1) ≤ 2 ^ (32 * (l - 1)) * t := Int.mul_le_mul_of_nonneg_left h3' (by omega)
    simp only [Int.mul_zero, Int.add_zero]
    omega

set_option maxRecDepth 100000 in
set_option maxHeartbeats 400000 in
theorem bits_any (v : Value) (N : Int) (w : World) (hv : NumIs w v N) (hN : N < 4294967296 ^ 40) :
    Calls Tryd.prog 61 #[v] w fun e w' => ∃ n : Nat, e = .returned (.int .i64 n) ∧ bitsAre N n ∧ n ≤ 1280 ∧ w' = w := by
  obtain ⟨D, sD, dD, tD, rfl⟩ := hv
  have lD := v32_len D dD tD 40 hN
  obtain ⟨ao, cap, rfl, m1, k1, f1⟩ := sD.form
  unfold maxLen at m1
  clear hN sD
  by_cases h0 : D.length = 0
  · have HB : Hid (bitsAre (v32 D) 0) := by
      rw [List.eq_nil_of_length_eq_zero h0]; exact ⟨by simp [v32, pv], by omega⟩
    obtain ⟨N, hN⟩ : ∃ N, v32 D = N := ⟨_, rfl⟩
    rw [hN] at HB ⊢
    obtain ⟨l, hl⟩ : ∃ l, D.length = l := ⟨_, rfl⟩
    rw [hl] at h0 ⊢
    subst h0
    clear f1
    go_enter Tryd.func61, Tryd.ntmps61
    go_wp2
    go_ret
    exact ⟨0, rfl, HB.out, by omega, rfl⟩
  · obtain ⟨b, rfl, hb, hc⟩ := f1 (by omega)
    clear f1
    have HE := fun j => halved_end D dD tD D.length j rfl (by omega)
    obtain ⟨t, ht⟩ : ∃ t, D.getD (D.length - 1) 0 = t := ⟨_, rfl⟩
    have x := hc (D.length - 1) (by omega)
    have bt := dD (D.length - 1)
    rw [ht] at x bt HE
    obtain ⟨N, hN⟩ : ∃ N, v32 D = N := ⟨_, rfl⟩
    rw [hN] at HE ⊢
    obtain ⟨l, hl⟩ : ∃ l, D.length = l := ⟨_, rfl⟩
    rw [hl] at h0 x lD k1 HE ⊢
    have HJ : Hid _ := HE
    have bt0 := bt.1
    have bt1 := bt.2
    clear hc ht hN hl HE bt
    have g1 : ((l : Int) == 0) = false := by simp; omega
    have g2 : (0 : Int) ≤ (l : Int) - 1 := by omega
    have g3 : (l : Int) - 1 < (l : Int) := by omega
    have g4 : ((l : Int) - 1).toNat = l - 1 := by omega
    go_enter Tryd.func61, Tryd.ntmps61
    go_wp2
    go_loop [3, 4] (fun n y => ∃ (j : Nat) (q : Int), n = .int .i64 ((32 * (l - 1) + j : Nat) : Int) ∧ y = .int .u64 q ∧ Hid (halved t q j) ∧ 0 ≤ q ∧ q ≤ t ∧ j ≤ 32) (fun _ y => (intOf y).toNat)
    case atStart => exact ⟨0, t, by first | rfl | (congr 1; omega), rfl, ⟨bt0, by rw [show (2 : Int) ^ 0 = 1 from rfl]; omega, by rw [show (2 : Int) ^ 0 = 1 from rfl]; omega, by omega⟩, bt0, Int.le_refl _, by omega⟩
    case round =>
      obtain ⟨j, q, rfl, rfl, hh, q0, q1, j1⟩ := hrel
      by_cases hq : 0 < q
      · have st : Hid (halved t (q / 2) (j + 1)) := halved_step t q j hq hh.out
        have sj := halved_small t (q / 2) (j + 1) bt1 st.out
        go_wp2
        go_round
        case rel => exact ⟨j + 1, q / 2, by first | rfl | (congr 1 <;> omega), rfl, st, by omega, by omega, sj⟩
        case measure => simp [intOf]; omega
      · have q2 : q = 0 := by omega
        subst q2
        have HB : Hid (bitsAre N (32 * (l - 1) + j)) := HJ.out j hh.out
        go_wp2
        go_ret
        exact ⟨32 * (l - 1) + j, rfl, HB.out, by omega, rfl⟩
end Go.Proofs.YtflnfjekapngkaaDoor
