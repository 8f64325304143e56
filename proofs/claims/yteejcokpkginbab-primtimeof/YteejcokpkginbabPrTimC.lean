/- The program's method time of layer 13. -/
import Derived.Test.YteejcokpkginbabRows
import Derived.Test.YteejcokpkginbabPrTimA
import Derived.Deep.OwnRows
import Derived.Deep.AppendLies
import Derived.Great.BuildSlice
import Derived.BigQuiet
import Derived.Deep.WholeRow
import Derived.Deep.RegionHeld3
import Derived.Deep.DeepCutAuto
import Derived.Deep.DeepFit
namespace Go.Proofs.Yteejcokpkginbab
open Go.RowKit

theorem c13_ahead70 {w : World} : Calls Try.prog 32 #[.int .i64 1970] w fun e w' => e = .returned (.int .i64 719162) ∧ w' = w := by
  have h := c13_ahead (y := 1970) (w := w) (by omega)
  rw [aheadZ_pos (by omega), ahead_1970] at h
  exact h
set_option linter.unusedSimpArgs false in
set_option maxRecDepth 100000 in
set_option maxHeartbeats 2000000 in
theorem c13_time {y m d h i s : Nat} {w : World} (hy1 : 1 ≤ y) (hy : y ≤ 99999) (hm1 : 1 ≤ m) (hm2 : m ≤ 12) (hd : d ≤ 99) (hh : h ≤ 99) (hi : i ≤ 99) (hs : s ≤ 99) :
    Calls Try.prog 24 #[.agg #[.int .i64 (y : Int), .int .i64 (m : Int), .int .i64 (d : Int), .int .i64 (h : Int), .int .i64 (i : Int), .int .i64 (s : Int)]] w fun e w' => e = .returned (.int .i64 (secN y m d + (3600 * (h : Int) + 60 * (i : Int) + (s : Int)))) ∧ Below w.heap.size w w' := by
  have B0 := Blk.new w [.int .i64 (y : Int), .int .i64 (m : Int), .int .i64 (d : Int), .int .i64 (h : Int), .int .i64 (i : Int), .int .i64 (s : Int)] 55 w.heap.size rfl
  have bel : Below w.heap.size w (w.alloc (.cells #[.int .i64 (y : Int), .int .i64 (m : Int), .int .i64 (d : Int), .int .i64 (h : Int), .int .i64 (i : Int), .int .i64 (s : Int)] 55)) := (Below.refl _ _).alloc (Nat.le_refl _) _
  have e0 := B0.cell 0 _ rfl
  have e1 := B0.cell 1 _ rfl
  have e2 := B0.cell 2 _ rfl
  have e3 := B0.cell 3 _ rfl
  have e4 := B0.cell 4 _ rfl
  have e5 := B0.cell 5 _ rfl
  have lt0 := B0.lt
  have hab := aheadZ_bd (y := y) (by omega)
  have hah := fun w : World => c13_ahead (y := y) (w := w) (by omega)
  have HZ : Hid (aheadZ y = ahead y) := aheadZ_pos hy1
  have HM : Hid (∀ k, 1 ≤ k → msum y (k + 1 - 1) = msum y (k - 1) + daysN y k) := fun k hk => msum_next hk
  have HMl : Hid (∀ n, msum y n ≤ 31 * n) := msum_le y
  obtain ⟨a, ha⟩ : ∃ a, aheadZ y = a := ⟨_, rfl⟩
  have HA : Hid (aheadZ y = a) := ha
  rw [ha] at hab hah
  clear ha
  obtain ⟨p, hp⟩ : ∃ p, a - 719162 = p := ⟨_, rfl⟩
  have w1 : IntKind.i64.wrap (a - 719162) = p := by rw [IntKind.wrap_i64]; omega
  obtain ⟨q, hq⟩ : ∃ q, p + (d : Int) = q := ⟨_, rfl⟩
  have w2 : IntKind.i64.wrap (p + (d : Int)) = q := by rw [IntKind.wrap_i64]; omega
  obtain ⟨D, hD⟩ : ∃ z, q - 1 = z := ⟨_, rfl⟩
  have w3 : IntKind.i64.wrap (q - 1) = D := by rw [IntKind.wrap_i64]; omega
  have hDb : -800000 ≤ D ∧ D ≤ 37000000 := by omega
  have HS : Hid (secN y m d = (D + (msum y (m - 1) : Nat)) * 86400) := by
    show _ = _
    rw [sec_ahead, ← HZ.out, HA.out]
    refine congrArg (fun z : Int => z * 86400) ?_
    omega
  clear hp hq hD HZ HA
  go_enter Try.func24, Try.ntmps24
  go_upto_region 1 with fail
  go_quiet (((first | (go_at_call_of 32 (Value.int IntKind.i64 (y : Int)); exact Calls.quiet_of_same (hah _)) | (go_at_call_of 32 (Value.int IntKind.i64 1970); exact Calls.quiet_of_same c13_ahead70))))
  clear hah w1 w2 w3 hab
  replace B0 := B0.drewN nq
  replace bel := below_dN bel nq
  generalize (w.alloc (.cells #[.int .i64 (y : Int), .int .i64 (m : Int), .int .i64 (d : Int), .int .i64 (h : Int), .int .i64 (i : Int), .int .i64 (s : Int)] 55)).drewN nq = W at *
  clear e0 e1 e2 e3 e4 e5 lt0
  have e0 := B0.cell 0 _ rfl
  have e1 := B0.cell 1 _ rfl
  have e2 := B0.cell 2 _ rfl
  have e3 := B0.cell 3 _ rfl
  have e4 := B0.cell 4 _ rfl
  have e5 := B0.cell 5 _ rfl
  have lt0 := B0.lt
  go_wp2_with fail
  go_loop [3, 4] (fun dv kv => ∃ (k : Nat) (z : Int), 1 ≤ k ∧ k ≤ m ∧ kv = .int .i64 (k : Int) ∧ dv = .int .i64 z ∧ (-800000 ≤ z ∧ z ≤ 37000400) ∧ Hid (z = D + (msum y (k - 1) : Nat))) (fun _ kv => m - (intOf kv).toNat)
  case atStart => exact ⟨1, D, by omega, hm1, rfl, rfl, by omega, by show _ = _; rw [show 1 - 1 = 0 from rfl, msum]; omega⟩
  case round =>
    obtain ⟨k, z, hk1, hk2, rfl, rfl, hz, HK⟩ := hrel
    by_cases hil : k < m
    · have g1 : (k : Int) < (m : Int) := by omega
      have gk : IntKind.i64.wrap ((k : Int) + 1) = (k : Int) + 1 := by rw [IntKind.wrap_i64]; omega
      have HMk := HM.out k hk1
      have hl := HMl.out (k + 1 - 1)
      have HK2 : Hid (z + (daysN y k : Nat) = D + (msum y (k + 1 - 1) : Nat)) := by show _ = _; rw [HK.out, HMk]; omega
      have hz2 : z + ((daysN y k : Nat) : Int) ≤ 37000400 := by rw [HK2.out]; omega
      clear HMk hl
      go_wp2_with fail
      refine (c13_mdays (y := y) (m := k) (by omega) hk1 (by omega)).mono ?_
      rintro e w1 ⟨rfl, rfl⟩
      rw [mdZ_pos hy1]
      obtain ⟨x, hx⟩ : ∃ x, daysN y k = x := ⟨_, rfl⟩
      rw [hx] at HK2 hz2 ⊢
      have w4 : IntKind.i64.wrap (z + (x : Int)) = z + (x : Int) := by rw [IntKind.wrap_i64]; omega
      clear hx
      go_wp2_with fail
      go_round
      case rel => exact ⟨k + 1, z + (x : Int), by omega, by omega, by go_num, rfl, by omega, HK2⟩
      case measure => simp [intOf]; omega
    · have g1 : ¬ (k : Int) < (m : Int) := by omega
      have hkm : k = m := by omega
      have HE : Hid (secN y m d = z * 86400) := by show _ = _; rw [HS.out, HK.out, hkm]
      clear HK HS hkm
      obtain ⟨u, hu⟩ : ∃ u, z * 86400 = u := ⟨_, rfl⟩
      have w4 : IntKind.i64.wrap (z * 86400) = u := by rw [IntKind.wrap_i64]; omega
      obtain ⟨u1, hu1⟩ : ∃ u, (h : Int) * 3600 = u := ⟨_, rfl⟩
      have w5 : IntKind.i64.wrap ((h : Int) * 3600) = u1 := by rw [IntKind.wrap_i64]; omega
      obtain ⟨u2, hu2⟩ : ∃ u, (i : Int) * 60 = u := ⟨_, rfl⟩
      have w6 : IntKind.i64.wrap ((i : Int) * 60) = u2 := by rw [IntKind.wrap_i64]; omega
      obtain ⟨u3, hu3⟩ : ∃ u, u1 + u2 = u := ⟨_, rfl⟩
      have w7 : IntKind.i64.wrap (u1 + u2) = u3 := by rw [IntKind.wrap_i64]; omega
      obtain ⟨u4, hu4⟩ : ∃ u, u3 + (s : Int) = u := ⟨_, rfl⟩
      have w8 : IntKind.i64.wrap (u3 + (s : Int)) = u4 := by rw [IntKind.wrap_i64]; omega
      obtain ⟨u5, hu5⟩ : ∃ q, u + u4 = q := ⟨_, rfl⟩
      have w9 : IntKind.i64.wrap (u + u4) = u5 := by rw [IntKind.wrap_i64]; omega
      have HE2 : Hid (secN y m d + (3600 * (h : Int) + 60 * (i : Int) + (s : Int)) = u5) := by show _ = _; rw [HE.out]; omega
      clear hu hu1 hu2 hu3 hu4 hu5 HE
      go_wp2_with fail
      go_ret
      exact ⟨by rw [HE2.out]; rfl, bel⟩
end Go.Proofs.Yteejcokpkginbab
