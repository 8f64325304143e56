/- The reference's Exp: a power's rest. -/
import Derived.Test.YtdikjabghhhhfaaDoorRows
import Derived.Test.YtdikjabghhhhfaaDoorRefB
import Derived.Test.YtdikjabghhhhfaaDoorRefA
import Derived.Test.YtdikjabghhhhfaaDoorMath
namespace Go.Proofs.YtdikjabghhhhfaaDoor
open Go.RowKit

theorem one_num (w : World) (t : TypeId) : NumIs (w.alloc (.cells (us [1]).toArray t)) (.slice (some ⟨w.heap.size, 0, none⟩) 1 1) 1 := by
  have B := Blk.new w (us [1]) t w.heap.size rfl
  refine ⟨[1], .inr ⟨w.heap.size, 1, rfl, Nat.le_refl _, by unfold maxLen; omega, B.lt, fun j hj => B.cell j _ (us_get _ j hj)⟩, ?_, ?_, ?_⟩
  · intro j
    match j with
    | 0 => decide
    | _ + 1 => exact ⟨by simp, by simp⟩
  · intro _; decide
  · rfl

theorem exp_sq {a M O : Int} {p : Nat} (h : O = a ^ p % M) : (O * O) % M = (a ^ p * a ^ p) % M := by
  rw [h, ← Int.mul_emod]

theorem exp_bit0 {a M O : Int} {E k : Nat} (h : O = a ^ (E / 2 ^ (k + 1)) % M) (hb : ¬ E / 2 ^ k % 2 = 1) : (O * O) % M = a ^ (E / 2 ^ k) % M := by
  rw [exp_sq h, pow_step a E k, pow_bit, if_neg hb, Int.mul_one]

theorem exp_bit1 {a M O : Int} {E k : Nat} (h : O = a ^ (E / 2 ^ (k + 1)) % M) (hb : E / 2 ^ k % 2 = 1) : ((O * O) % M * (a % M)) % M = a ^ (E / 2 ^ k) % M := by
  rw [exp_sq h, ← Int.mul_emod, pow_step a E k, pow_bit, if_pos hb]

theorem sq_30 {O P M : Int} (hM : M < 18446744073709551616 ^ 6) (h1 : O < M) (h2 : 0 ≤ P) (h3 : P < M) : O * P < 4294967296 ^ 30 ∧ O < 4294967296 ^ 30 ∧ P < 4294967296 ^ 30 := by
  rw [show (18446744073709551616 : Int) = 4294967296 ^ 2 by decide, ← Int.pow_mul] at hM
  have h4 : O * P ≤ 4294967296 ^ (2 * 6) * 4294967296 ^ (2 * 6) := Int.mul_le_mul (by omega) (by omega) h2 (by omega)
  have : (4294967296 : Int) ^ (2 * 6) * 4294967296 ^ (2 * 6) < 4294967296 ^ 30 := by decide
  have : (4294967296 : Int) ^ (2 * 6) < 4294967296 ^ 30 := by decide
  omega

theorem mod_bd {X M : Int} (h : 0 < M) : 0 ≤ X % M ∧ X % M < M := ⟨Int.emod_nonneg _ (by omega), Int.emod_lt_of_pos _ h⟩

theorem exp_top {a M : Int} {E n : Nat} (h : E < 2 ^ n) : 1 % M = a ^ (E / 2 ^ n) % M := by
  rw [Nat.div_eq_of_lt h, Int.pow_zero]

set_option maxRecDepth 100000 in
set_option maxHeartbeats 2000000 in
theorem rexp_any (u v m : Value) (A E M : Int) (w : World) (hu : NumIs w u A) (hv : NumIs w v E) (hm : NumIs w m M) (hA : A < 4294967296 ^ 30) (hE : E < 4294967296 ^ 40) (hM1 : 0 < M) (hM2 : M < 18446744073709551616 ^ 6) :
    Calls Tryd.prog 76 #[u, v, m] w fun e w' => ∃ v', e = .returned v' ∧ NumIs w' v' (A ^ E.toNat % M) ∧ Below w.heap.size w w' := by
  have HA : Hid _ := hA
  have HE : Hid _ := hE
  have H1 : Hid _ := hM1
  have H2 : Hid _ := hM2
  clear hA hE hM1 hM2
  have N1 := one_num w 22
  replace hu := hu.alloc (.cells (us [1]).toArray 22)
  replace hv := hv.alloc (.cells (us [1]).toArray 22)
  replace hm := hm.alloc (.cells (us [1]).toArray 22)
  have bel : Below w.heap.size w (w.alloc (.cells (us [1]).toArray 22)) := (Below.refl _ _).alloc (Nat.le_refl _) _
  go_enter Tryd.func76, Tryd.ntmps76
  go_wp2_with fail
  simp only [us, List.map_cons, List.map_nil] at N1 hu hv hm bel
  generalize w.alloc (Obj.cells #[.int .u64 1] 22) = W at *
  refine (rrest_any _ _ _ _ _ N1 hm (by decide) H1.out H2.out).mono ?_
  rintro e w1 ⟨vo, rfl, hNo, hb⟩
  replace hu := hu.later hb
  replace hv := hv.later hb
  replace hm := hm.later hb
  replace bel := below_step bel hb
  clear hb N1
  go_wp2_with fail
  refine (rrest_any _ _ _ _ _ hu hm HA.out H1.out H2.out).mono ?_
  rintro e w2 ⟨vb, rfl, hNb, hb⟩
  replace hv := hv.later hb
  replace hm := hm.later hb
  replace hNo := hNo.later hb
  replace bel := below_step bel hb
  clear hb hu
  go_wp2_with fail
  refine (bits_any _ _ _ hv HE.out).mono ?_
  rintro e w' ⟨n, rfl, hn, hn2, hw⟩
  obtain rfl := hw.symm
  have E0 : Hid _ := hv.nonneg
  have TOP : Hid (E.toNat < 2 ^ n) := by
    show _ < _
    have h1 := hn.1
    have h2 := E0.out
    have : ((E.toNat : Nat) : Int) < ((2 ^ n : Nat) : Int) := by
      rw [Int.toNat_of_nonneg h2, Int.natCast_pow]
      exact h1
    exact Int.ofNat_lt.1 this
  clear hn hw
  have gn : IntKind.i64.wrap ((n : Int) - 1) = (n : Int) - 1 := by rw [IntKind.wrap_i64]; omega
  go_wp2_with fail
  go_loopw [7, 9] (fun ov iv wr => ∃ (k : Nat) (O : Int), k ≤ n ∧ iv = .int .i64 ((k : Int) - 1) ∧ NumIs wr ov O ∧ Hid (O = A ^ (E.toNat / 2 ^ k) % M) ∧ NumIs wr vb (A % M) ∧ NumIs wr v E ∧ NumIs wr m M ∧ Below w.heap.size w wr)
    (fun _ iv _ => (intOf iv + 1).toNat)
  case atStart => exact ⟨n, 1 % M, Nat.le_refl _, rfl, hNo, exp_top TOP.out, hNb, hv, hm, bel⟩
  case round =>
    clear hNo hNb hv hm bel
    obtain ⟨k, O, hk, rfl, hNo, HO, hNb, hv, hm, bel⟩ := hrel
    by_cases h0 : k = 0
    · subst h0
      have HF : Hid (O = A ^ E.toNat % M) := by
        have := HO.out
        rw [Nat.pow_zero, Nat.div_one] at this
        exact this
      have g1 : ¬ (0 : Int) ≤ ((0 : Nat) : Int) - 1 := by omega
      have g2 : decide ((0 : Int) ≤ ((0 : Nat) : Int) - 1) = false := by decide
      clear HO
      go_wp2_with fail
      go_ret
      exact ⟨_, rfl, by rw [← HF.out]; exact hNo, bel⟩
    · obtain ⟨j, rfl⟩ : ∃ j, k = j + 1 := ⟨k - 1, by omega⟩
      have ej : ((j + 1 : Nat) : Int) - 1 = (j : Int) := by omega
      rw [ej]
      clear h0
      have BO := mod_bd (X := A ^ (E.toNat / 2 ^ (j + 1))) H1.out
      rw [← HO.out] at BO
      have BQ : Hid _ := sq_30 H2.out BO.2 BO.1 BO.2
      have BP : Hid _ := fun O' => sq_30 (O := O' % M) (P := A % M) H2.out (mod_bd H1.out).2 (mod_bd H1.out).1 (mod_bd H1.out).2
      clear BO
      have g1 : (0 : Int) ≤ (j : Int) := by omega
      have gj : IntKind.i64.wrap ((j : Int) - 1) = (j : Int) - 1 := by rw [IntKind.wrap_i64]; omega
      go_wp2_with fail
      refine (rmul_any _ _ _ _ _ hNo hNo BQ.out.2.1 BQ.out.2.1).mono ?_
      rintro e w4 ⟨v4, rfl, hN4, hb⟩
      replace hNb := hNb.later hb
      replace hv := hv.later hb
      replace hm := hm.later hb
      replace bel := below_step bel hb
      clear hb hNo
      go_wp2_with fail
      refine (rrest_any _ _ _ _ _ hN4 hm BQ.out.1 H1.out H2.out).mono ?_
      rintro e w5 ⟨v5, rfl, hN5, hb⟩
      replace hNb := hNb.later hb
      replace hv := hv.later hb
      replace hm := hm.later hb
      replace bel := below_step bel hb
      clear hb hN4
      go_wp2_with fail
      refine (rbit_any _ _ j _ hv (by omega)).mono ?_
      rintro e w' ⟨rfl, hw⟩
      obtain rfl := hw.symm
      clear hw
      by_cases hb1 : E.toNat / 2 ^ j % 2 = 1
      · rw [decide_eq_true hb1]
        have HO2 : Hid _ := exp_bit1 HO.out hb1
        clear HO hb1
        go_wp2_with fail
        refine (rmul_any _ _ _ _ _ hN5 hNb (BP.out _).2.1 (BP.out (O * O)).2.2).mono ?_
        rintro e w6 ⟨v6, rfl, hN6, hb⟩
        replace hNb := hNb.later hb
        replace hv := hv.later hb
        replace hm := hm.later hb
        replace bel := below_step bel hb
        clear hb hN5
        go_wp2_with fail
        refine (rrest_any _ _ _ _ _ hN6 hm (BP.out _).1 H1.out H2.out).mono ?_
        rintro e w7 ⟨v7, rfl, hN7, hb⟩
        replace hNb := hNb.later hb
        replace hv := hv.later hb
        replace hm := hm.later hb
        replace bel := below_step bel hb
        clear hb hN6
        go_wp2_with fail
        go_roundw
        case rel => exact ⟨j, _, by omega, rfl, hN7, HO2, hNb, hv, hm, bel⟩
        case measure => simp [intOf]
      · rw [decide_eq_false hb1]
        have HO2 : Hid _ := exp_bit0 HO.out hb1
        clear HO hb1
        go_wp2_with fail
        go_roundw
        case rel => exact ⟨j, _, by omega, rfl, hN5, HO2, hNb, hv, hm, bel⟩
        case measure => simp [intOf]
end Go.Proofs.YtdikjabghhhhfaaDoor
