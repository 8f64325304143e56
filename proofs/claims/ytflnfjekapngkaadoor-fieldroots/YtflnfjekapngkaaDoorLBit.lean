/- limb.Bit: one of a number's bits. -/
import Derived.Test.YtflnfjekapngkaaDoorRows
import Derived.Test.YtflnfjekapngkaaDoorBase
namespace Go.Proofs.YtflnfjekapngkaaDoor
open Go.RowKit

def bitN (A : List Int) (i : Int) : Int := if 0 ≤ i ∧ i < 384 then A.getD (i.toNat / 64) 0 / 2 ^ (i.toNat % 64) % 2 else 0

theorem bitN_in (A : List Int) (k : Nat) (hk : k < 384) : bitN A k = A.getD (k / 64) 0 / 2 ^ (k % 64) % 2 := by
  unfold bitN
  rw [if_pos (by omega)]
  simp

theorem bitN_out (A : List Int) (i : Int) (h : i < 0 ∨ 384 ≤ i) : bitN A i = 0 := by
  unfold bitN
  rw [if_neg (by omega)]

theorem and_one (a : Int) (h0 : 0 ≤ a) (h1 : a < 18446744073709551616) : bits .and .u64 a 1 = a % 2 := by
  rw [u64_and a 1 h0 h1 (by decide) (by decide), show (1 : Int).toNat = 1 from rfl, nat_mask1]
  omega

theorem div_pow_bd (a : Int) (j : Nat) (h0 : 0 ≤ a) (h1 : a < 18446744073709551616) : 0 ≤ a / 2 ^ j ∧ a / 2 ^ j < 18446744073709551616 := by
  have hp : (0 : Int) < 2 ^ j := Int.pow_pos (by decide)
  refine ⟨Int.ediv_nonneg h0 (Int.le_of_lt hp), ?_⟩
  exact Int.lt_of_le_of_lt (Int.ediv_le_self _ h0) h1

set_option maxRecDepth 100000 in
theorem bit_any (A : List Int) (i : Int) (w : World) (lA : A.length = 6) (hx : fits A) :
    Calls Tryd.prog 45 #[.agg (us A).toArray, .int .i64 i] w fun e w' => e = .returned (.int .u64 (bitN A i)) ∧ Below w.heap.size w w' := by
  by_cases h0 : 0 ≤ i
  · by_cases h1 : i < 384
    · obtain ⟨k, rfl⟩ := Int.eq_ofNat_of_zero_le h0
      have b0 := (Blk.new w (us A) 24 w.heap.size rfl).cell (k / 64) _ (us_get A _ (by omega))
      have hb := bitN_in A k (by omega)
      obtain ⟨a, hA⟩ : ∃ a, A.getD (k / 64) 0 = a := ⟨_, rfl⟩
      have ha : 0 ≤ a ∧ a < 18446744073709551616 := hA ▸ hx _
      rw [hA] at b0 hb
      have hd := div_pow_bd a (k % 64) ha.1 ha.2
      have HB : Hid (bits .and .u64 (a / 2 ^ (k % 64)) 1 = bitN A k) := by rw [hb]; exact and_one _ hd.1 hd.2
      clear hb hd hA
      have g1 : ¬ (k : Int) < 0 := by omega
      have g2 : ¬ (384 : Int) ≤ (k : Int) := by omega
      have g3 : (0 : Int) ≤ (k : Int) / 64 := by omega
      have g4 : (k : Int) / 64 < 6 := by omega
      go_enter Tryd.func45, Tryd.ntmps45
      go_wp2
      go_ret
      exact ⟨ret_int HB.out, (Below.refl _ _).alloc (Nat.le_refl _) _⟩
    · have HB : Hid (bitN A i = 0) := bitN_out A i (by omega)
      have g1 : ¬ i < 0 := by omega
      have g2 : (384 : Int) ≤ i := by omega
      go_enter Tryd.func45, Tryd.ntmps45
      go_wp2
      go_ret
      exact ⟨ret_int HB.out.symm, (Below.refl _ _).alloc (Nat.le_refl _) _⟩
  · have HB : Hid (bitN A i = 0) := bitN_out A i (by omega)
    have g1 : i < 0 := by omega
    go_enter Tryd.func45, Tryd.ntmps45
    go_wp2
    go_ret
    exact ⟨ret_int HB.out.symm, (Below.refl _ _).alloc (Nat.le_refl _) _⟩

theorem bit6 {x0 x1 x2 x3 x4 x5 i : Int} {w : World} (hx : fits [x0, x1, x2, x3, x4, x5]) :
    Calls Tryd.prog 45 #[.agg #[.int .u64 x0, .int .u64 x1, .int .u64 x2, .int .u64 x3, .int .u64 x4, .int .u64 x5], .int .i64 i] w fun e w' => e = .returned (.int .u64 (bitN [x0, x1, x2, x3, x4, x5] i)) ∧ Below w.heap.size w w' :=
  bit_any _ i w rfl hx
end Go.Proofs.YtflnfjekapngkaaDoor
