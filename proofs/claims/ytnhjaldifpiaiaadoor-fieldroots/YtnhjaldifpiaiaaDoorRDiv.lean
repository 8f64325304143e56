/- The reference's Div: a quotient and a rest. -/
import Derived.Test.YtnhjaldifpiaiaaDoorRows
import Derived.Test.YtnhjaldifpiaiaaDoorRExp
import Derived.Test.YtnhjaldifpiaiaaDoorRefA
namespace Go.Proofs.YtnhjaldifpiaiaaDoor
open Go.RowKit

/-- the quotient and the rest of the bits from k on -/
def Dv (A B : Int) (k : Nat) (Q R : Int) : Prop := Q * B + R = ((A.toNat / 2 ^ k : Nat) : Int) ∧ 0 ≤ R ∧ R < B ∧ 0 ≤ Q

theorem bit_next (N k : Nat) : N / 2 ^ k = 2 * (N / 2 ^ (k + 1)) + N / 2 ^ k % 2 := by
  rw [Nat.pow_succ, ← Nat.div_div_eq_div_mul]; omega

theorem div_one_lt {A B Q R : Int} {j : Nat} (h : Dv A B (j + 1) Q R) (hb : A.toNat / 2 ^ j % 2 = 1) (hl : R + R + 1 < B) : Dv A B j (Q + Q) (R + R + 1) := by
  obtain ⟨h1, h2, h3, h4⟩ := h
  have e := bit_next A.toNat j
  refine ⟨?_, by omega, hl, by omega⟩
  rw [Int.add_mul]
  omega
theorem div_nul_lt {A B Q R : Int} {j : Nat} (h : Dv A B (j + 1) Q R) (hb : ¬ A.toNat / 2 ^ j % 2 = 1) (hl : R + R < B) : Dv A B j (Q + Q) (R + R) := by
  obtain ⟨h1, h2, h3, h4⟩ := h
  have e := bit_next A.toNat j
  refine ⟨?_, by omega, hl, by omega⟩
  rw [Int.add_mul]
  omega
theorem div_one_ge {A B Q R : Int} {j : Nat} (h : Dv A B (j + 1) Q R) (hb : A.toNat / 2 ^ j % 2 = 1) (hl : ¬ R + R + 1 < B) : Dv A B j (Q + Q + 1) (R + R + 1 - B) := by
  obtain ⟨h1, h2, h3, h4⟩ := h
  have e := bit_next A.toNat j
  refine ⟨?_, by omega, by omega, by omega⟩
  rw [Int.add_mul, Int.add_mul, Int.one_mul]
  omega
theorem div_nul_ge {A B Q R : Int} {j : Nat} (h : Dv A B (j + 1) Q R) (hb : ¬ A.toNat / 2 ^ j % 2 = 1) (hl : ¬ R + R < B) : Dv A B j (Q + Q + 1) (R + R - B) := by
  obtain ⟨h1, h2, h3, h4⟩ := h
  have e := bit_next A.toNat j
  refine ⟨?_, by omega, by omega, by omega⟩
  rw [Int.add_mul, Int.add_mul, Int.one_mul]
  omega

theorem div_bd {A B Q R : Int} {k : Nat} (h : Dv A B k Q R) (hA : A < 4294967296 ^ 20) (hB : B < 4294967296 ^ 20) : Q < 4294967296 ^ 30 ∧ Q + Q < 4294967296 ^ 30 ∧ R + R < 4294967296 ^ 30 ∧ R + R + 1 < 4294967296 ^ 30 := by
  obtain ⟨h1, h2, h3, h4⟩ := h
  have h5 : ((A.toNat / 2 ^ k : Nat) : Int) ≤ ((A.toNat : Nat) : Int) := Int.ofNat_le.2 (Nat.div_le_self _ _)
  have h6 : Q ≤ Q * B := by
    have := Int.mul_le_mul_of_nonneg_left (show (1 : Int) ≤ B by omega) h4
    omega
  have h7 : ((4294967296 : Int) ^ 20 + 4294967296 ^ 20 + 1 < 4294967296 ^ 30) := by decide
  have h8 : (0 : Int) < 4294967296 ^ 20 := by decide
  generalize (4294967296 : Int) ^ 20 = S at *
  generalize (4294967296 : Int) ^ 30 = T at *
  omega

theorem div_top {A B : Int} {n : Nat} (hB : 0 < B) (h : A.toNat < 2 ^ n) : Dv A B n 0 0 :=
  ⟨by rw [Nat.div_eq_of_lt h]; simp, Int.le_refl _, hB, Int.le_refl _⟩

theorem div_end {A B Q R : Int} (hA : 0 ≤ A) (h : Dv A B 0 Q R) : Q = A / B ∧ R = A % B := by
  obtain ⟨h1, h2, h3, h4⟩ := h
  rw [Nat.pow_zero, Nat.div_one, Int.toNat_of_nonneg hA] at h1
  have e : A = R + B * Q := by rw [← h1, Int.mul_comm]; omega
  constructor
  · rw [e, Int.add_mul_ediv_left _ _ (by omega), Int.ediv_eq_zero_of_lt h2 h3, Int.zero_add]
  · rw [e, Int.add_mul_emod_self_left, Int.emod_eq_of_lt h2 h3]

set_option maxRecDepth 100000 in
set_option maxHeartbeats 4000000 in
theorem rdiv_any (u v : Value) (A B : Int) (w : World) (hv : NumIs w u A) (hm : NumIs w v B) (hA : A < 4294967296 ^ 20) (hB : B < 4294967296 ^ 20) (hB0 : 0 < B) :
    Calls Tryd.prog 39 #[u, v] w fun e w' => ∃ q r, e = .returned (.tuple #[q, r]) ∧ NumIs w' q (A / B) ∧ NumIs w' r (A % B) ∧ Below w.heap.size w w' := by
  have HA : Hid _ := hA
  have HB : Hid _ := hB
  have HP : Hid _ := hB0
  have A0 : Hid _ := hv.nonneg
  clear hA hB hB0
  have hA40 : Hid (A < 4294967296 ^ 40) := Int.lt_trans HA.out (by decide)
  have bel : Below w.heap.size w w := Below.refl _ _
  go_enter Tryd.func39, Tryd.ntmps39
  go_wp2_with fail
  refine (bits_any _ _ _ hv hA40.out).mono ?_
  rintro e w' ⟨n, rfl, hn, hn2, hw⟩
  obtain rfl := hw.symm
  have TOP : Hid (A.toNat < 2 ^ n) := by
    show _ < _
    have h1 := hn.1
    have h2 := A0.out
    have : ((A.toNat : Nat) : Int) < ((2 ^ n : Nat) : Int) := by
      rw [Int.toNat_of_nonneg h2, Int.natCast_pow]
      exact h1
    exact Int.ofNat_lt.1 this
  clear hn hw
  have gn : IntKind.i64.wrap ((n : Int) - 1) = (n : Int) - 1 := by rw [IntKind.wrap_i64]; omega
  go_wp2_with fail
  go_loopw [6, 7, 8] (fun qv rv iv wr => ∃ (k : Nat) (Q R : Int), k ≤ n ∧ iv = .int .i64 ((k : Int) - 1) ∧ NumIs wr qv Q ∧ NumIs wr rv R ∧ Hid (Dv A B k Q R) ∧ NumIs wr u A ∧ NumIs wr v B ∧ Below w.heap.size w wr)
    (fun _ _ iv _ => (intOf iv + 1).toNat)
  case atStart => exact ⟨n, 0, 0, Nat.le_refl _, rfl, nil_num _, nil_num _, div_top HP.out TOP.out, hv, hm, bel⟩
  case round =>
    clear hv hm bel
    obtain ⟨k, Q, R, hk, rfl, hNq, hNr, HD, hv, hm, bel⟩ := hrel
    by_cases h0 : k = 0
    · subst h0
      have HF : Hid _ := div_end A0.out HD.out
      have g1 : ¬ (0 : Int) ≤ ((0 : Nat) : Int) - 1 := by omega
      have g2 : decide ((0 : Int) ≤ ((0 : Nat) : Int) - 1) = false := by decide
      clear HD
      go_wp2_with fail
      go_ret2
      exact ⟨_, _, rfl, by rw [← HF.out.1]; exact hNq, by rw [← HF.out.2]; exact hNr, bel⟩
    · obtain ⟨j, rfl⟩ : ∃ j, k = j + 1 := ⟨k - 1, by omega⟩
      have ej : ((j + 1 : Nat) : Int) - 1 = (j : Int) := by omega
      rw [ej]
      clear h0
      have BD : Hid _ := div_bd HD.out HA.out HB.out
      have BR : Hid (R < 4294967296 ^ 30) := Int.lt_trans HD.out.2.2.1 (Int.lt_trans HB.out (by decide))
      have g1 : (0 : Int) ≤ (j : Int) := by omega
      have gj : IntKind.i64.wrap ((j : Int) - 1) = (j : Int) - 1 := by rw [IntKind.wrap_i64]; omega
      go_wp2_with fail
      refine (radd_any _ _ _ _ _ hNr hNr BR.out BR.out).mono ?_
      rintro e w4 ⟨v4, rfl, hNr2, hb⟩
      clear hNr
      replace hNq := hNq.later hb
      replace hv := hv.later hb
      replace hm := hm.later hb
      replace bel := below_step bel hb
      clear hb
      go_wp2_with fail
      refine (rbit_any _ _ j _ hv (by omega)).mono ?_
      rintro e w' ⟨rfl, hw⟩
      obtain rfl := hw.symm
      clear hw
      by_cases hb1 : A.toNat / 2 ^ j % 2 = 1
      · rw [decide_eq_true hb1]
        have N1 := one_num w4 22
        replace hNr2 := hNr2.alloc (.cells (us [1]).toArray 22)
        replace hNq := hNq.alloc (.cells (us [1]).toArray 22)
        replace hv := hv.alloc (.cells (us [1]).toArray 22)
        replace hm := hm.alloc (.cells (us [1]).toArray 22)
        replace bel := below_alloc (o := .cells (us [1]).toArray 22) bel
        go_wp2_with fail
        simp only [us, List.map_cons, List.map_nil] at N1 hNr2 hNq hv hm bel
        generalize w4.alloc (Obj.cells #[.int .u64 1] 22) = W5 at *
        refine (radd_any _ _ _ _ _ hNr2 N1 BD.out.2.2.1 (by decide)).mono ?_
        rintro e w5 ⟨v5, rfl, hr, hb⟩
        clear N1 hNr2
        replace hNq := hNq.later hb
        replace hv := hv.later hb
        replace hm := hm.later hb
        replace bel := below_step bel hb
        clear hb
        go_wp2_with fail
        refine (radd_any _ _ _ _ _ hNq hNq BD.out.1 BD.out.1).mono ?_
        rintro e wq ⟨vq, rfl, hNq2, hb⟩
        clear hNq
        replace hr := hr.later hb
        replace hv := hv.later hb
        replace hm := hm.later hb
        replace bel := below_step bel hb
        clear hb
        go_wp2_with fail
        refine (cmp_any _ _ _ _ _ hr hm).mono ?_
        rintro e wc ⟨rfl, hb⟩
        replace hr := hr.later hb
        replace hNq2 := hNq2.later hb
        replace hv := hv.later hb
        replace hm := hm.later hb
        replace bel := below_step bel hb
        clear hb
        by_cases hge : (R + R + 1) < B
        · have hcd : decide (0 ≤ cmpN (R + R + 1) B) = false := decide_eq_false (by have := cmp_neg hge; omega)
          have hcn : ¬ 0 ≤ cmpN (R + R + 1) B := by have := cmp_neg hge; omega
          have HD2 : Hid _ := div_one_lt HD.out hb1 hge
          clear HD hb1 hge
          go_wp2_with fail
          go_roundw
          case rel => exact ⟨j, _, _, by omega, rfl, hNq2, hr, HD2, hv, hm, bel⟩
          case measure => simp [intOf]
        · have hcd : decide (0 ≤ cmpN (R + R + 1) B) = true := decide_eq_true (cmp_ge0 hge)
          have hcn : 0 ≤ cmpN (R + R + 1) B := cmp_ge0 hge
          have HD2 : Hid _ := div_one_ge HD.out hb1 hge
          have HG : Hid _ := Int.not_lt.1 hge
          clear HD hb1 hge
          go_wp2_with fail
          refine (rsub_any _ _ _ _ _ hr hm BD.out.2.2.2 HG.out).mono ?_
          rintro e ws ⟨vs, rfl, hr2, hb⟩
          clear hr
          replace hNq2 := hNq2.later hb
          replace hv := hv.later hb
          replace hm := hm.later hb
          replace bel := below_step bel hb
          clear hb
          have N1 := one_num ws 22
          replace hNq2 := hNq2.alloc (.cells (us [1]).toArray 22)
          replace hr2 := hr2.alloc (.cells (us [1]).toArray 22)
          replace hv := hv.alloc (.cells (us [1]).toArray 22)
          replace hm := hm.alloc (.cells (us [1]).toArray 22)
          replace bel := below_alloc (o := .cells (us [1]).toArray 22) bel
          go_wp2_with fail
          simp only [us, List.map_cons, List.map_nil] at N1 hNq2 hr2 hv hm bel
          generalize ws.alloc (Obj.cells #[.int .u64 1] 22) = W7a at *
          refine (radd_any _ _ _ _ _ hNq2 N1 BD.out.2.1 (by decide)).mono ?_
          rintro e w7a ⟨v7a, rfl, hNq3, hb⟩
          clear N1 hNq2
          replace hr2 := hr2.later hb
          replace hv := hv.later hb
          replace hm := hm.later hb
          replace bel := below_step bel hb
          clear hb
          go_wp2_with fail
          go_roundw
          case rel => exact ⟨j, _, _, by omega, rfl, hNq3, hr2, HD2, hv, hm, bel⟩
          case measure => simp [intOf]
      · rw [decide_eq_false hb1]
        have hr := hNr2
        clear hNr2
        go_wp2_with fail
        refine (radd_any _ _ _ _ _ hNq hNq BD.out.1 BD.out.1).mono ?_
        rintro e wq ⟨vq, rfl, hNq2, hb⟩
        clear hNq
        replace hr := hr.later hb
        replace hv := hv.later hb
        replace hm := hm.later hb
        replace bel := below_step bel hb
        clear hb
        go_wp2_with fail
        refine (cmp_any _ _ _ _ _ hr hm).mono ?_
        rintro e wc ⟨rfl, hb⟩
        replace hr := hr.later hb
        replace hNq2 := hNq2.later hb
        replace hv := hv.later hb
        replace hm := hm.later hb
        replace bel := below_step bel hb
        clear hb
        by_cases hge : (R + R) < B
        · have hcd : decide (0 ≤ cmpN (R + R) B) = false := decide_eq_false (by have := cmp_neg hge; omega)
          have hcn : ¬ 0 ≤ cmpN (R + R) B := by have := cmp_neg hge; omega
          have HD2 : Hid _ := div_nul_lt HD.out hb1 hge
          clear HD hb1 hge
          go_wp2_with fail
          go_roundw
          case rel => exact ⟨j, _, _, by omega, rfl, hNq2, hr, HD2, hv, hm, bel⟩
          case measure => simp [intOf]
        · have hcd : decide (0 ≤ cmpN (R + R) B) = true := decide_eq_true (cmp_ge0 hge)
          have hcn : 0 ≤ cmpN (R + R) B := cmp_ge0 hge
          have HD2 : Hid _ := div_nul_ge HD.out hb1 hge
          have HG : Hid _ := Int.not_lt.1 hge
          clear HD hb1 hge
          go_wp2_with fail
          refine (rsub_any _ _ _ _ _ hr hm BD.out.2.2.1 HG.out).mono ?_
          rintro e ws ⟨vs, rfl, hr2, hb⟩
          clear hr
          replace hNq2 := hNq2.later hb
          replace hv := hv.later hb
          replace hm := hm.later hb
          replace bel := below_step bel hb
          clear hb
          have N1 := one_num ws 22
          replace hNq2 := hNq2.alloc (.cells (us [1]).toArray 22)
          replace hr2 := hr2.alloc (.cells (us [1]).toArray 22)
          replace hv := hv.alloc (.cells (us [1]).toArray 22)
          replace hm := hm.alloc (.cells (us [1]).toArray 22)
          replace bel := below_alloc (o := .cells (us [1]).toArray 22) bel
          go_wp2_with fail
          simp only [us, List.map_cons, List.map_nil] at N1 hNq2 hr2 hv hm bel
          generalize ws.alloc (Obj.cells #[.int .u64 1] 22) = W7b at *
          refine (radd_any _ _ _ _ _ hNq2 N1 BD.out.2.1 (by decide)).mono ?_
          rintro e w7b ⟨v7b, rfl, hNq3, hb⟩
          clear N1 hNq2
          replace hr2 := hr2.later hb
          replace hv := hv.later hb
          replace hm := hm.later hb
          replace bel := below_step bel hb
          clear hb
          go_wp2_with fail
          go_roundw
          case rel => exact ⟨j, _, _, by omega, rfl, hNq3, hr2, HD2, hv, hm, bel⟩
          case measure => simp [intOf]
end Go.Proofs.YtnhjaldifpiaiaaDoor
