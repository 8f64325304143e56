/- The law LimbBits. -/
import Derived.Test.YtlgcbnciehndgabRows
import Derived.Test.YtlgcbnciehndgabOne
import Derived.Test.YtlgcbnciehndgabLBit
namespace Go.Proofs.Ytlgcbnciehndgab
open Go.RowKit

set_option maxRecDepth 100000 in
theorem law_limbBits (x0 x1 x2 x3 x4 x5 i : Int) (w : World) (hx : fits [x0, x1, x2, x3, x4, x5]) (_i0 : -9223372036854775808 ≤ i) (_i1 : i ≤ 9223372036854775807) :
    Calls Try.prog 4 #[.agg #[.int .u64 x0, .int .u64 x1, .int .u64 x2, .int .u64 x3, .int .u64 x4, .int .u64 x5], .int .i64 i] w fun e w' => e = .returned (.bool true) ∧ Below w.heap.size w w' := by
  have B0 := Blk.new w (us [x0, x1, x2, x3, x4, x5]) 24 w.heap.size rfl
  have bel : Below w.heap.size w (w.alloc (.cells (us [x0, x1, x2, x3, x4, x5]).toArray 24)) := (Below.refl _ _).alloc (Nat.le_refl _) _
  have o1 : bitN [1, 0, 0, 0, 0, 0] 0 = 1 := rfl
  simp only [us, List.map_cons, List.map_nil] at B0 bel
  by_cases h0 : 0 ≤ i
  · by_cases h1 : i < 384
    · obtain ⟨k, rfl⟩ := Int.eq_ofNat_of_zero_le h0
      have b0 := B0.cell (k / 64) _ (us_get [x0, x1, x2, x3, x4, x5] _ (by simp; omega))
      have hb := bitN_in [x0, x1, x2, x3, x4, x5] k (by omega)
      obtain ⟨a, hA⟩ : ∃ a, ([x0, x1, x2, x3, x4, x5]).getD (k / 64) 0 = a := ⟨_, rfl⟩
      have ha : 0 ≤ a ∧ a < 18446744073709551616 := hA ▸ hx _
      rw [hA] at b0 hb
      have hd := div_pow_bd a (k % 64) ha.1 ha.2
      have hd0 := hd.1
      clear hA
      have g3 : (0 : Int) ≤ (k : Int) / 64 := by omega
      have g4 : (k : Int) / 64 < 6 := by omega
      go_enter Try.func4, Try.ntmps4
      go_wp2_with fail
      generalize w.alloc (Obj.cells #[.int .u64 x0, .int .u64 x1, .int .u64 x2, .int .u64 x3, .int .u64 x4, .int .u64 x5] 24) = W at *
      have z0 := B0.lt
      refine (one_any _).mono ?_
      rintro e w1 ⟨rfl, hq⟩
      replace B0 := B0.later hq
      replace bel := bel.trans (hq.mono (by omega))
      clear hq z0 b0
      have z0 := B0.lt
      go_wp2_with fail
      refine (bit6 fits_one).mono ?_
      rintro e w2 ⟨rfl, hq⟩
      rw [o1]
      replace B0 := B0.later hq
      replace bel := bel.trans (hq.mono (by omega))
      clear hq z0
      have z0 := B0.lt
      obtain ⟨c0, c1, c2, c3, c4, c5⟩ := B0.cells6
      go_wp2_with fail
      refine (bit6 hx).mono ?_
      rintro e w3 ⟨rfl, hq⟩
      rw [hb]
      replace bel := bel.trans (hq.mono (by omega))
      go_wp2_with fail
      go_ret
      exact ⟨rfl, bel⟩
    · have hb := bitN_out [x0, x1, x2, x3, x4, x5] i (by omega)
      have g2 : (384 : Int) ≤ i := by omega
      go_enter Try.func4, Try.ntmps4
      go_wp2_with fail
      generalize w.alloc (Obj.cells #[.int .u64 x0, .int .u64 x1, .int .u64 x2, .int .u64 x3, .int .u64 x4, .int .u64 x5] 24) = W at *
      have z0 := B0.lt
      refine (one_any _).mono ?_
      rintro e w1 ⟨rfl, hq⟩
      replace B0 := B0.later hq
      replace bel := bel.trans (hq.mono (by omega))
      clear hq z0
      have z0 := B0.lt
      go_wp2_with fail
      refine (bit6 fits_one).mono ?_
      rintro e w2 ⟨rfl, hq⟩
      rw [o1]
      replace B0 := B0.later hq
      replace bel := bel.trans (hq.mono (by omega))
      clear hq z0
      have z0 := B0.lt
      obtain ⟨c0, c1, c2, c3, c4, c5⟩ := B0.cells6
      go_wp2_with fail
      refine (bit6 hx).mono ?_
      rintro e w3 ⟨rfl, hq⟩
      rw [hb]
      replace bel := bel.trans (hq.mono (by omega))
      go_wp2_with fail
      go_ret
      exact ⟨rfl, bel⟩
  · have hb := bitN_out [x0, x1, x2, x3, x4, x5] i (by omega)
    have g2 : i < 0 := by omega
    go_enter Try.func4, Try.ntmps4
    go_wp2_with fail
    generalize w.alloc (Obj.cells #[.int .u64 x0, .int .u64 x1, .int .u64 x2, .int .u64 x3, .int .u64 x4, .int .u64 x5] 24) = W at *
    have z0 := B0.lt
    refine (one_any _).mono ?_
    rintro e w1 ⟨rfl, hq⟩
    replace B0 := B0.later hq
    replace bel := bel.trans (hq.mono (by omega))
    clear hq z0
    have z0 := B0.lt
    go_wp2_with fail
    refine (bit6 fits_one).mono ?_
    rintro e w2 ⟨rfl, hq⟩
    rw [o1]
    replace B0 := B0.later hq
    replace bel := bel.trans (hq.mono (by omega))
    clear hq z0
    have z0 := B0.lt
    obtain ⟨c0, c1, c2, c3, c4, c5⟩ := B0.cells6
    go_wp2_with fail
    refine (bit6 hx).mono ?_
    rintro e w3 ⟨rfl, hq⟩
    rw [hb]
    replace bel := bel.trans (hq.mono (by omega))
    go_wp2_with fail
    go_ret
    exact ⟨rfl, bel⟩
end Go.Proofs.Ytlgcbnciehndgab
