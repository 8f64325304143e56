/- modp.New: a modulus. -/
import Derived.Test.YtpenapcgpplghabRows
import Derived.Test.YtpenapcgpplghabMInv
import Derived.Test.YtpenapcgpplghabMSq
import Derived.Test.YtpenapcgpplghabLBit
import Derived.Test.YtpenapcgpplghabPut13
import Derived.Deep.RegionHeld3
namespace Go.Proofs.Ytpenapcgpplghab
open Go.RowKit

theorem bit_low (m0 m1 m2 m3 m4 m5 : Int) (h : m0 % 2 = 1) : bitN [m0, m1, m2, m3, m4, m5] 0 = 1 := by
  rw [show (0 : Int) = ((0 : Nat) : Int) from rfl, bitN_in _ 0 (by omega)]
  simp only [Nat.zero_div, List.getD_cons_zero, Nat.zero_mod, Int.pow_zero, Int.ediv_one]
  exact h

theorem bit_low0 (m0 m1 m2 m3 m4 m5 : Int) (h : m0 % 2 = 0) : bitN [m0, m1, m2, m3, m4, m5] 0 = 0 := by
  rw [show (0 : Int) = ((0 : Nat) : Int) from rfl, bitN_in _ 0 (by omega)]
  simp only [Nat.zero_div, List.getD_cons_zero, Nat.zero_mod, Int.pow_zero, Int.ediv_one]
  exact h

theorem bit_high (m0 m1 m2 m3 m4 m5 : Int) (f : fits [m0, m1, m2, m3, m4, m5]) (h : 9223372036854775808 ≤ m5) : bitN [m0, m1, m2, m3, m4, m5] 383 = 1 := by
  rw [show (383 : Int) = ((383 : Nat) : Int) from rfl, bitN_in _ 383 (by omega)]
  have b : 0 ≤ m5 ∧ m5 < 18446744073709551616 := f 5
  show m5 / 2 ^ 63 % 2 = 1
  rw [show (2 : Int) ^ 63 = 9223372036854775808 by decide]
  omega

theorem bit_high0 (m0 m1 m2 m3 m4 m5 : Int) (f : fits [m0, m1, m2, m3, m4, m5]) (h : m5 < 9223372036854775808) : bitN [m0, m1, m2, m3, m4, m5] 383 = 0 := by
  rw [show (383 : Int) = ((383 : Nat) : Int) from rfl, bitN_in _ 383 (by omega)]
  have b : 0 ≤ m5 ∧ m5 < 18446744073709551616 := f 5
  show m5 / 2 ^ 63 % 2 = 0
  rw [show (2 : Int) ^ 63 = 9223372036854775808 by decide]
  omega

theorem mod_is {m0 m1 m2 m3 m4 m5 i t0 t1 t2 t3 t4 t5 : Int} (fM : fits [m0, m1, m2, m3, m4, m5]) (h0 : m0 % 2 = 1) (h5 : 9223372036854775808 ≤ m5) (i0 : 0 ≤ i) (i1 : i < 18446744073709551616) (hi : (i * m0) % 18446744073709551616 = 18446744073709551615) (fT : fits [t0, t1, t2, t3, t4, t5]) (hT : v64 [t0, t1, t2, t3, t4, t5] = (18446744073709551616 ^ 6 * 18446744073709551616 ^ 6) % v64 [m0, m1, m2, m3, m4, m5]) : IsMod [m0, m1, m2, m3, m4, m5] i [t0, t1, t2, t3, t4, t5] :=
  ⟨rfl, fM, rfl, fT, i0, i1, hi, v64_big _ rfl fM h5, by rw [v64_odd]; exact h0, hT⟩

set_option maxRecDepth 100000 in
set_option maxHeartbeats 2000000 in
theorem new_ok {m0 m1 m2 m3 m4 m5 : Int} {w : World} (fM : fits [m0, m1, m2, m3, m4, m5]) (h0 : m0 % 2 = 1) (h5 : 9223372036854775808 ≤ m5) :
    Calls Try.prog 6 #[.agg #[.int .u64 m0, .int .u64 m1, .int .u64 m2, .int .u64 m3, .int .u64 m4, .int .u64 m5]] w fun e w' => ∃ i t0 t1 t2 t3 t4 t5 : Int, e = .returned (.tuple #[.agg #[.int .u64 m0, .int .u64 m1, .int .u64 m2, .int .u64 m3, .int .u64 m4, .int .u64 m5, .int .u64 i, .int .u64 t0, .int .u64 t1, .int .u64 t2, .int .u64 t3, .int .u64 t4, .int .u64 t5], .nilIface]) ∧ IsMod [m0, m1, m2, m3, m4, m5] i [t0, t1, t2, t3, t4, t5] ∧ Below w.heap.size w w' := by
  have B0 := (Blk.new w (us [m0, m1, m2, m3, m4, m5]) 24 w.heap.size rfl).alloc (.cells (us [0, 0, 0, 0, 0, 0, 0, 0, 0, 0, 0, 0, 0]).toArray 27)
  have B1 := Blk.new (w.alloc (.cells (us [m0, m1, m2, m3, m4, m5]).toArray 24)) (us [0, 0, 0, 0, 0, 0, 0, 0, 0, 0, 0, 0, 0]) 27 (w.heap.size + 1) (by simp)
  have bel : Below w.heap.size w ((w.alloc (.cells (us [m0, m1, m2, m3, m4, m5]).toArray 24)).alloc (.cells (us [0, 0, 0, 0, 0, 0, 0, 0, 0, 0, 0, 0, 0]).toArray 27)) := ((Below.refl _ _).alloc (Nat.le_refl _) _).alloc (by simp) _
  have HB : Hid (18446744073709551616 ^ 6 ≤ 2 * v64 [m0, m1, m2, m3, m4, m5]) := v64_big _ rfl fM h5
  have HO : Hid (v64 [m0, m1, m2, m3, m4, m5] % 2 = 1) := by show _ = _; rw [v64_odd]; exact h0
  have H0 : Hid _ := h0
  have H5 : Hid _ := h5
  have q0 : Hid _ := bit_low m0 m1 m2 m3 m4 m5 h0
  have q1 : Hid _ := bit_high m0 m1 m2 m3 m4 m5 fM h5
  clear h0 h5
  go_enter Try.func6, Try.ntmps6
  go_wp2_with fail
  simp only [us, List.map_cons, List.map_nil] at B0 B1 bel
  generalize (w.alloc (Obj.cells #[.int .u64 m0, .int .u64 m1, .int .u64 m2, .int .u64 m3, .int .u64 m4, .int .u64 m5] 24)).alloc (Obj.cells #[.int .u64 0, .int .u64 0, .int .u64 0, .int .u64 0, .int .u64 0, .int .u64 0, .int .u64 0, .int .u64 0, .int .u64 0, .int .u64 0, .int .u64 0, .int .u64 0, .int .u64 0] 27) = W at *
  have lt1 := B1.lt
  refine (bit6 fM).mono ?_
  rintro e w1 ⟨rfl, hb⟩
  rw [q0.out]
  replace B0 := B0.later hb
  replace B1 := B1.later hb
  replace bel := bel.trans (hb.mono (by omega))
  clear hb lt1
  have lt1 := B1.lt
  obtain ⟨c0, c1, c2, c3, c4, c5⟩ := B0.cells6
  go_wp2_with fail
  refine (bit6 fM).mono ?_
  rintro e w2 ⟨rfl, hb⟩
  rw [q1.out]
  replace B0 := B0.later hb
  replace B1 := B1.later hb
  replace bel := bel.trans (hb.mono (by omega))
  clear hb lt1 c0 c1 c2 c3 c4 c5
  have hWr : Wr13 w2 (w.heap.size + 1) := Wr13.of (X := [0, 0, 0, 0, 0, 0, 0, 0, 0, 0, 0, 0, 0]) rfl B1
  obtain ⟨c0, c1, c2, c3, c4, c5⟩ := B0.cells6
  clear B0 B1
  go_wp2_with fail
  go_region_held3 (fun wx => (wx.cell? ⟨w.heap.size, 0, none⟩ = some (.int .u64 m0) ∧ wx.cell? ⟨w.heap.size, 1, none⟩ = some (.int .u64 m1) ∧ wx.cell? ⟨w.heap.size, 2, none⟩ = some (.int .u64 m2) ∧ wx.cell? ⟨w.heap.size, 3, none⟩ = some (.int .u64 m3) ∧ wx.cell? ⟨w.heap.size, 4, none⟩ = some (.int .u64 m4) ∧ wx.cell? ⟨w.heap.size, 5, none⟩ = some (.int .u64 m5)) ∧ Wr13 wx (w.heap.size + 1) ∧ Below w.heap.size w wx)
    (first
      | (go_split_ands; with_reducible exact ⟨⟨cell_far13 (by assumption) (by omega), cell_far13 (by assumption) (by omega), cell_far13 (by assumption) (by omega), cell_far13 (by assumption) (by omega), cell_far13 (by assumption) (by omega), cell_far13 (by assumption) (by omega)⟩, Wr13.put (by assumption), below_put13 (by assumption) (by omega)⟩)
      | (with_reducible assumption)
      | (go_split_ands; with_reducible exact ⟨⟨cell_later (by assumption) hb, cell_later (by assumption) hb, cell_later (by assumption) hb, cell_later (by assumption) hb, cell_later (by assumption) hb, cell_later (by assumption) hb⟩, Wr13.later (by assumption) hb, below_step (by assumption) hb⟩)
      | (exact ⟨⟨c0, c1, c2, c3, c4, c5⟩, hWr.drew, bel.drew⟩))
    (first
      | (go_at_call 16; refine (inv_any m0 _ H0.out).mono ?_; rintro e w' ⟨i, rfl, i0, i1, hi, hw⟩; have HI : Hid _ := hi; clear hi; obtain rfl := hw.symm)
      | (go_at_call 17; refine (sq_any fM HB.out HO.out).mono ?_; rintro e w' ⟨t0, t1, t2, t3, t4, t5, rfl, fT, hT, hb⟩; have HT : Hid _ := hT; clear hT; obtain ⟨g0, g1, g2, g3, g4, g5, g6, g7, g8, g9, g10, g11, g12, ⟨h0, h1, h2, h3, h4, h5, h6, h7, h8, h9, h10, h11, h12⟩, ⟨f0, f1, f2, f3, f4, f5, f6, f7, f8, f9, f10, f11, f12⟩⟩ := (Wr13.later (b := w.heap.size + 1) (by go_split_ands; assumption) hb).cells))
  all_goals go_split_ands
  all_goals go_wp2
  all_goals exact bodyPost_ret (v := .tuple #[.agg #[.int .u64 m0, .int .u64 m1, .int .u64 m2, .int .u64 m3, .int .u64 m4, .int .u64 m5, .int .u64 i, .int .u64 t0, .int .u64 t1, .int .u64 t2, .int .u64 t3, .int .u64 t4, .int .u64 t5], .nilIface]) (by simp [results, Try.results6, go_sem, h0, h1, h2, h3, h4, h5, h6, h7, h8, h9, h10, h11, h12]) rfl ⟨i, t0, t1, t2, t3, t4, t5, rfl, mod_is fM H0.out H5.out i0 i1 HI.out fT HT.out, by assumption⟩
end Go.Proofs.Ytpenapcgpplghab
