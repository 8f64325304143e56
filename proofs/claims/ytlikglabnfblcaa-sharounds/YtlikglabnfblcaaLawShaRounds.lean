/- The law ShaRounds answers true: a round of any words. -/
import Derived.Test.YtlikglabnfblcaaRows
import Derived.Test.YtlikglabnfblcaaSCodeR
import Derived.Test.YtlikglabnfblcaaSRoundL
import Derived.Test.YtlikglabnfblcaaEqEight
import Derived.Test.YtlikglabnfblcaaShape
import Derived.Deep.WholeRow
import Derived.Deep.RegionHeld3
import Derived.Deep.DeepCutAuto
import Derived.Deep.DeepFit
namespace Go.Proofs.Ytlikglabnfblcaa
open Go.RowKit

theorem con_RoundL {v0 v1 v2 v3 v4 v5 v6 v7 y0 y1 y2 y3 y4 y5 y6 y7 k m : Int} {w : World} (fV : fits [v0, v1, v2, v3, v4, v5, v6, v7]) (hk : 0 ≤ k ∧ k < 18446744073709551616) (hm : 0 ≤ m ∧ m < 18446744073709551616) (h : roundN [v0, v1, v2, v3, v4, v5, v6, v7] k m = [y0, y1, y2, y3, y4, y5, y6, y7]) :
    Calls Try.prog 10 #[.agg #[.int .u64 v0, .int .u64 v1, .int .u64 v2, .int .u64 v3, .int .u64 v4, .int .u64 v5, .int .u64 v6, .int .u64 v7], .int .u64 k, .int .u64 m] w fun e w' => e = .returned (.agg #[.int .u64 y0, .int .u64 y1, .int .u64 y2, .int .u64 y3, .int .u64 y4, .int .u64 y5, .int .u64 y6, .int .u64 y7]) ∧ Below w.heap.size w w' := by
  refine (con_Round fV hk hm).mono ?_
  rintro e w' ⟨rfl, hb⟩
  rw [h]
  exact ⟨rfl, hb⟩

set_option maxRecDepth 100000 in
set_option maxHeartbeats 4000000 in
theorem law_shaRounds (v0 v1 v2 v3 v4 v5 v6 v7 k m : Int) (w : World) (fV : fits [v0, v1, v2, v3, v4, v5, v6, v7]) (hk : 0 ≤ k ∧ k < 18446744073709551616) (hm : 0 ≤ m ∧ m < 18446744073709551616) :
    Calls Try.prog 5 #[.agg #[.int .u64 v0, .int .u64 v1, .int .u64 v2, .int .u64 v3, .int .u64 v4, .int .u64 v5, .int .u64 v6, .int .u64 v7], .int .u64 k, .int .u64 m] w fun e w' => e = .returned (.bool true) ∧ Below w.heap.size w w' := by
  obtain ⟨y0, y1, y2, y3, y4, y5, y6, y7, hy⟩ := eight (roundN_len (V := [v0, v1, v2, v3, v4, v5, v6, v7]) rfl k m)
  have HY : Hid (roundN [v0, v1, v2, v3, v4, v5, v6, v7] k m = [y0, y1, y2, y3, y4, y5, y6, y7]) := hy
  have HZ : Hid (roundN [0, 0, 0, 0, 0, 0, 0, 0] 1 0 = [1, 0, 0, 0, 1, 0, 0, 0]) := by show _ = _; decide +kernel
  clear hy
  have q2 := eql_8s y0 y1 y2 y3 y4 y5 y6 y7
  have q3 : ∀ w : World, (Instr.index 36 (.agg #[.int .u64 1, .int .u64 0, .int .u64 0, .int .u64 0, .int .u64 1, .int .u64 0, .int .u64 0, .int .u64 0]) (.int .i64 0)).run Try.prog w = .ok (.int .u64 1) w := fun _ => by kernel_rfl
  have B0 := Blk.new w [.int .u64 v0, .int .u64 v1, .int .u64 v2, .int .u64 v3, .int .u64 v4, .int .u64 v5, .int .u64 v6, .int .u64 v7] 36 (w.heap.size) rfl
  have bel : Below w.heap.size w (w.alloc (.cells [.int .u64 v0, .int .u64 v1, .int .u64 v2, .int .u64 v3, .int .u64 v4, .int .u64 v5, .int .u64 v6, .int .u64 v7].toArray 36)) := ((Below.refl _ _).alloc (Nat.le_refl _) _)
  go_enter Try.func5, Try.ntmps5
  go_upto_region 1 with fail
  try simp only [us, List.map_cons, List.map_nil] at bel
  generalize (w.alloc (Obj.cells #[.int .u64 v0, .int .u64 v1, .int .u64 v2, .int .u64 v3, .int .u64 v4, .int .u64 v5, .int .u64 v6, .int .u64 v7] 36)) = W at *
  have Bv := B0
  clear B0
  obtain ⟨S1, hS1, KL1, KA1, KD1, KS1, KQ1, KN1, KB1, KM1, KR1⟩ := held3 (w0 := w) (W := _) [(w.heap.size, [.int .u64 v0, .int .u64 v1, .int .u64 v2, .int .u64 v3, .int .u64 v4, .int .u64 v5, .int .u64 v6, .int .u64 v7])] (by
    intro b X h
    simp only [List.mem_cons, List.not_mem_nil, or_false, Prod.mk.injEq] at h
    rcases h with ⟨rfl, rfl⟩
    · exact Bv) bel
  have kb1a : ∀ wx, Hd S1 wx → Blk wx (w.heap.size) [.int .u64 v0, .int .u64 v1, .int .u64 v2, .int .u64 v3, .int .u64 v4, .int .u64 v5, .int .u64 v6, .int .u64 v7] := fun wx h => KM1.out wx _ _ h (by simp)
  have c1a0 := rulec kb1a 0 _ rfl
  have c1a1 := rulec kb1a 1 _ rfl
  have c1a2 := rulec kb1a 2 _ rfl
  have c1a3 := rulec kb1a 3 _ rfl
  have c1a4 := rulec kb1a 4 _ rfl
  have c1a5 := rulec kb1a 5 _ rfl
  have c1a6 := rulec kb1a 6 _ rfl
  have c1a7 := rulec kb1a 7 _ rfl
  have c1al := ruleb kb1a
  clear kb1a
  have hN1 := bel.size
  clear bel Bv
  go_region_held3 (Hd S1)
    (first
      | with_reducible exact KL1.out _ _ (by assumption) hb
      | with_reducible exact KA1.out _ _ (by assumption)
      | with_reducible exact KS1.out _ _ _ (by omega) (by assumption)
      | with_reducible exact KD1.out _ hS1
      | with_reducible exact KD1.out _ (KA1.out _ _ hS1)
      | with_reducible assumption)
    (first
      | (go_at_call 10; go_fit (con_RoundL fV hk hm HY.out); rintro e w' ⟨rfl, hb⟩)
      | (go_at_call 10; go_fit (con_RoundL (fits_zero 8) ⟨by decide, by decide⟩ ⟨by decide, by decide⟩ HZ.out); rintro e w' ⟨rfl, hb⟩)
      | (go_at_call 11; go_fit (r7_RoundL HY.out); rintro e w' ⟨rfl, hb⟩))
  all_goals go_wp2
  all_goals (go_ret; exact ⟨rfl, KB1.out _ (by assumption)⟩)

end Go.Proofs.Ytlikglabnfblcaa
