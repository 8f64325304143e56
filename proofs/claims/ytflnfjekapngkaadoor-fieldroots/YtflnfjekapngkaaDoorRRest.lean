/- The reference's Rest: what a modulus leaves. -/
import Derived.Test.YtflnfjekapngkaaDoorRows
import Derived.Test.YtflnfjekapngkaaDoorRCut
import Derived.Test.YtflnfjekapngkaaDoorRSub
import Derived.Test.YtflnfjekapngkaaDoorRTop
import Derived.Test.YtflnfjekapngkaaDoorRCmp
import Derived.Test.YtflnfjekapngkaaDoorRMul
namespace Go.Proofs.YtflnfjekapngkaaDoor
open Go.RowKit

/-- the number that a slice of digits holds -/
def nval (w : World) : Value → Nat
  | .slice (some a) n _ => (v32 ((List.range n).map fun j => intOf ((w.cell? ⟨a.block, j, none⟩).getD undef))).toNat
  | _ => 0

theorem nval_is {w : World} {v : Value} {N : Int} (h : NumIs w v N) : nval w v = N.toNat := by
  obtain ⟨D, s, -, -, rfl⟩ := h
  rcases s with ⟨rfl, rfl⟩ | ⟨b, cap, rfl, h2, h3, h4, h5⟩
  · rfl
  · show (v32 ((List.range D.length).map fun j => intOf ((w.cell? ⟨b, j, none⟩).getD undef))).toNat = _
    congr 2
    apply List.ext_getElem?
    intro j
    by_cases hj : j < D.length
    · rw [List.getElem?_map, List.getElem?_range hj, Option.map_some, h5 j hj, List.getElem?_eq_getElem hj]
      simp [intOf, List.getD_eq_getElem?_getD, hj]
    · rw [List.getElem?_eq_none (by simp; omega), List.getElem?_eq_none (by omega)]

theorem NumIs.nonneg {w : World} {v : Value} {N : Int} (h : NumIs w v N) : 0 ≤ N := by
  obtain ⟨D, -, d, -, rfl⟩ := h
  exact (v32_bound D d).1

theorem rest_same {R M c L H X : Int} (hc : c = R - M) (h : (L + H * R) % M = X % M) : (L + H * c) % M = X % M := by
  rw [← h, hc, show L + H * R = L + H * (R - M) + H * M by rw [Int.mul_sub]; omega, Int.add_mul_emod_self_right]

theorem rest_less {R c L H : Int} (hc : c < R) (hH : 0 < H) : L + H * c < L + H * R := by
  have := Int.mul_lt_mul_of_pos_left hc hH
  omega

theorem div_parts (N R : Int) : N % R + N / R * R = N := by
  have := Int.mul_ediv_add_emod N R
  rw [Int.mul_comm] at this
  omega

theorem high_bd {R L H B : Int} (hR : 1 ≤ R) (hL : 0 ≤ L) (hH : 0 ≤ H) (h : L + H * R < B) : H < B := by
  have := Int.mul_le_mul_of_nonneg_left hR hH
  omega

theorem prod_lt {R c L H B : Int} (hL : 0 ≤ L) (hH : 0 ≤ H) (hc : c ≤ R) (h : L + H * R < B) : L + H * c < B ∧ H * c < B := by
  have := Int.mul_le_mul_of_nonneg_left hc hH
  omega

theorem R_lt : (18446744073709551616 : Int) ^ 6 < 4294967296 ^ 30 := by
  rw [pow_R]
  decide

theorem R_pos : (1 : Int) ≤ 18446744073709551616 ^ 6 := by decide

theorem cmp_neg {X Y : Int} (h : X < Y) : cmpN X Y < 0 := by
  unfold cmpN; rw [if_pos h]; decide

theorem cmp_ge0 {X Y : Int} (h : ¬ X < Y) : 0 ≤ cmpN X Y := by
  unfold cmpN; rw [if_neg h]; split <;> decide

set_option maxRecDepth 100000 in
set_option maxHeartbeats 2000000 in
theorem rrest_any (u v : Value) (X M : Int) (w : World) (hu : NumIs w u X) (hv : NumIs w v M) (hX : X < 4294967296 ^ 30) (hM1 : 0 < M) (hM2 : M < 18446744073709551616 ^ 6) :
    Calls Tryd.prog 30 #[u, v] w fun e w' => ∃ v', e = .returned v' ∧ NumIs w' v' (X % M) ∧ Below w.heap.size w w' := by
  have HX : Hid _ := hX
  have H1 : Hid _ := hM1
  have H2 : Hid _ := hM2
  obtain ⟨R, hR⟩ : ∃ R : Int, R = 18446744073709551616 ^ 6 := ⟨_, rfl⟩
  have HR : Hid _ := hR
  clear hX hM1 hM2 hR
  go_enter Tryd.func30, Tryd.ntmps30
  go_wp2_with fail
  refine (top_any _).mono ?_
  rintro e w1 ⟨vt, rfl, hNt, hb⟩
  replace hu := hu.later hb
  replace hv := hv.later hb
  have bel := hb
  clear hb
  go_wp2_with fail
  refine (rsub_any _ _ _ _ _ hNt hv R_lt (Int.le_of_lt H2.out)).mono ?_
  rintro e w2 ⟨vc, rfl, hNc, hb⟩
  replace hu := hu.later hb
  replace hv := hv.later hb
  replace bel := below_step bel hb
  clear hb hNt
  go_wp2_with fail
  refine (cut_any _ _ _ hu HX.out).mono ?_
  rintro e w3 ⟨lo, hi, rfl, hNl, hNh, hb⟩
  replace hv := hv.later hb
  replace hNc := hNc.later hb
  replace bel := below_step bel hb
  have X0 : Hid _ := hu.nonneg
  clear hb hu
  rw [← HR.out] at hNc hNl hNh
  go_wp2_with fail
  go_loopw [6, 7] (fun lo hi wr => ∃ L H : Int, NumIs wr lo L ∧ NumIs wr hi H ∧ Hid (0 ≤ L ∧ L < R ∧ 0 ≤ H ∧ L + H * R < 4294967296 ^ 30 ∧ (L + H * R) % M = X % M) ∧ NumIs wr vc (R - M) ∧ NumIs wr v M ∧ Below w.heap.size w wr)
    (fun lo hi wr => nval wr lo + nval wr hi * R.toNat)
  case atStart =>
    have r1 : 0 < R := by rw [HR.out]; have := R_pos; omega
    have e := div_parts X R
    exact ⟨X % R, X / R, hNl, hNh, ⟨Int.emod_nonneg _ (by omega), Int.emod_lt_of_pos _ r1, Int.ediv_nonneg X0.out (by omega), by rw [e]; exact HX.out, by rw [e]⟩, hNc, hv, bel⟩
  case round =>
    clear hNl hNh hNc hv bel
    obtain ⟨L, H, hNl, hNh, HI, hNc, hv, bel⟩ := hrel
    have hNh' := hNh
    obtain ⟨DH, sH, dH, tH, hH⟩ := hNh'
    obtain ⟨ao, cap, hf, m1, k1, -⟩ := sH.form
    obtain ⟨l, hl⟩ : ∃ l, DH.length = l := ⟨_, rfl⟩
    rw [hl] at hf
    unfold maxLen at m1
    have lcap : l ≤ 9223372036854775807 := by omega
    by_cases h0 : l = 0
    · have hH0 : H = 0 := by
        have : DH = [] := List.eq_nil_of_length_eq_zero (by omega)
        rw [← hH, this]; rfl
      have HI2 : Hid (0 ≤ L ∧ L < R ∧ L % M = X % M) := by
        obtain ⟨a1, a2, a3, a4, a5⟩ := HI.out
        rw [hH0] at a5
        exact ⟨a1, a2, by simpa using a5⟩
      subst hf
      subst h0
      clear hH hl k1 m1 lcap hNh sH dH tH HI hH0 hNc
      go_wp2_with fail
      go_loopw [6] (fun lo wq => ∃ L : Int, NumIs wq lo L ∧ Hid (0 ≤ L ∧ L < R ∧ L % M = X % M) ∧ NumIs wq v M ∧ Below w.heap.size w wq) (fun lo wq => nval wq lo)
      case atStart => exact ⟨L, hNl, HI2, hv, bel⟩
      case round =>
        clear hNl hv bel HI2
        obtain ⟨L2, hN2, HI3, hv2, bel2⟩ := hrel
        have HM0 : Hid _ := nval_is hN2
        go_wp2_with fail
        refine (cmp_any _ _ _ _ _ hN2 hv2).mono ?_
        rintro e w4 ⟨rfl, hb⟩
        replace hN2 := hN2.later hb
        replace hv2 := hv2.later hb
        replace bel2 := below_step bel2 hb
        clear hb
        by_cases hlt : L2 < M
        · have HE : Hid (L2 = X % M) := by
            obtain ⟨a1, a2, a3⟩ := HI3.out
            show _ = _
            rw [← a3, Int.emod_eq_of_lt a1 hlt]
          have hc := cmp_neg hlt
          obtain ⟨c, hcc⟩ : ∃ c, cmpN L2 M = c := ⟨_, rfl⟩
          rw [hcc] at hc ⊢
          have hcd : decide (0 ≤ c) = false := decide_eq_false (by omega)
          have hcn : ¬ 0 ≤ c := by omega
          clear hcc hlt
          go_wp2_with fail
          go_ret
          exact ⟨_, rfl, by rw [← HE.out]; exact hN2, bel2⟩
        · have hc := cmp_ge0 hlt
          obtain ⟨c, hcc⟩ : ∃ c, cmpN L2 M = c := ⟨_, rfl⟩
          rw [hcc] at hc ⊢
          have hcd : decide (0 ≤ c) = true := decide_eq_true hc
          clear hcc
          have HB : Hid (L2 < 4294967296 ^ 30) := by
            have := HI3.out.2.1
            have r := R_lt
            rw [← HR.out] at r
            show _ < _
            omega
          have HLM : Hid (M ≤ L2) := by show _ ≤ _; omega
          clear hlt
          go_wp2_with fail
          refine (rsub_any _ _ _ _ _ hN2 hv2 HB.out HLM.out).mono ?_
          rintro e w5 ⟨v5, rfl, hN5, hb⟩
          replace hv2 := hv2.later hb
          replace bel2 := below_step bel2 hb
          clear hb
          go_wp2_with fail
          go_roundw
          case rel => exact ⟨L2 - M, hN5, ⟨by have := HLM.out; omega, by have := HI3.out.2.1; have := H1.out; omega, by rw [Int.sub_emod_right]; exact HI3.out.2.2⟩, hv2, bel2⟩
          case measure =>
            have h5 := nval_is hN5
            have h6 := HM0.out
            have := H1.out
            have := HLM.out
            simp only [h5]
            show (L2 - M).toNat < nval _ _
            rw [h6]
            omega
    · have H0 : 0 < H := by
        have := trd_lower DH dH tH (by omega)
        have p := pow32_pos (DH.length - 1)
        rw [← hH]; omega
      subst hf
      clear sH dH tH k1 m1 hl hH
      have HM0 : Hid _ := nval_is hNl
      have HM1 : Hid _ := nval_is hNh
      have HP : Hid (0 < H ∧ L + H * (R - M) < 4294967296 ^ 30 ∧ H * (R - M) < 4294967296 ^ 30 ∧ H < 4294967296 ^ 30 ∧ L < 4294967296 ^ 30 ∧ R - M < 4294967296 ^ 30 ∧ 0 ≤ R - M ∧ R - M < R ∧ (L + H * (R - M)) % M = X % M) := by
        obtain ⟨a1, a2, a3, a4, a5⟩ := HI.out
        have r := R_lt
        have r1 := R_pos
        have m2 := H2.out
        have m1 := H1.out
        rw [← HR.out] at r r1 m2
        have := prod_lt (c := R - M) a1 a3 (by omega) a4
        have := high_bd r1 a1 a3 a4
        exact ⟨H0, by omega, by omega, by omega, by omega, by omega, by omega, by omega, rest_same rfl a5⟩
      clear H0
      have g1 : (0 : Int) < (l : Int) := by omega
      clear h0
      go_wp2_with fail
      refine (rmul_any _ _ _ _ _ hNh hNc HP.out.2.2.2.1 HP.out.2.2.2.2.2.1).mono ?_
      rintro e w4 ⟨v4, rfl, hN4, hb⟩
      replace hNl := hNl.later hb
      replace hNc := hNc.later hb
      replace hv := hv.later hb
      replace bel := below_step bel hb
      clear hb hNh
      go_wp2_with fail
      refine (radd_any _ _ _ _ _ hNl hN4 HP.out.2.2.2.2.1 HP.out.2.2.1).mono ?_
      rintro e w5 ⟨v5, rfl, hN5, hb⟩
      replace hNc := hNc.later hb
      replace hv := hv.later hb
      replace bel := below_step bel hb
      clear hb hNl hN4
      go_wp2_with fail
      refine (cut_any _ _ _ hN5 HP.out.2.1).mono ?_
      rintro e w6 ⟨lo6, hi6, rfl, hN6, hN7, hb⟩
      replace hNc := hNc.later hb
      replace hv := hv.later hb
      replace bel := below_step bel hb
      have N0 : Hid _ := hN5.nonneg
      rw [← HR.out] at hN6 hN7
      clear hb hN5
      go_wp2_with fail
      go_roundw
      case rel =>
        have r1 : 0 < R := by rw [HR.out]; have := R_pos; omega
        have e := div_parts (L + H * (R - M)) R
        exact ⟨_, _, hN6, hN7, ⟨Int.emod_nonneg _ (by omega), Int.emod_lt_of_pos _ r1, Int.ediv_nonneg N0.out (by omega), by rw [e]; exact HP.out.2.1, by rw [e]; exact HP.out.2.2.2.2.2.2.2.2⟩, hNc, hv, bel⟩
      case measure =>
        have r1 : 0 < R := by rw [HR.out]; have := R_pos; omega
        have e := div_parts (L + H * (R - M)) R
        have h6 := nval_is hN6
        have h7 := nval_is hN7
        have h8 := HM0.out
        have h9 := HM1.out
        have a := HI.out
        have lt := rest_less (L := L) HP.out.2.2.2.2.2.2.2.1 HP.out.1
        have q1 := Int.emod_nonneg (L + H * (R - M)) (show R ≠ 0 by omega)
        have q2 : 0 ≤ (L + H * (R - M)) / R := Int.ediv_nonneg N0.out (by omega)
        show nval _ _ + nval _ _ * R.toNat < nval _ _ + nval _ _ * R.toNat
        rw [h6, h7, h8, h9]
        generalize (L + H * (R - M)) % R = A at *
        generalize (L + H * (R - M)) / R = B at *
        have k1 : ((A.toNat + B.toNat * R.toNat : Nat) : Int) = A + B * R := by
          rw [Int.natCast_add, Int.natCast_mul, Int.toNat_of_nonneg q1, Int.toNat_of_nonneg q2, Int.toNat_of_nonneg (by omega)]
        have k2 : ((L.toNat + H.toNat * R.toNat : Nat) : Int) = L + H * R := by
          rw [Int.natCast_add, Int.natCast_mul, Int.toNat_of_nonneg a.1, Int.toNat_of_nonneg a.2.2.1, Int.toNat_of_nonneg (by omega)]
        omega
end Go.Proofs.YtflnfjekapngkaaDoor
