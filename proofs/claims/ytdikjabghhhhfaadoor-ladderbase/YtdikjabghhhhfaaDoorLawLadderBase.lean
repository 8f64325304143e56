/- The law LadderBase answers true: the base point, taken any number of times. -/
import Derived.Test.YtdikjabghhhhfaaDoorRows
import Derived.Test.YtdikjabghhhhfaaDoorLUp
import Derived.Test.YtdikjabghhhhfaaDoorCRef
import Derived.Test.YtdikjabghhhhfaaDoorCTms
import Derived.Deep.WholeRow
import Derived.Deep.RegionHeld3
import Derived.Deep.DeepCutAuto
import Derived.Deep.DeepFit
namespace Go.Proofs.YtdikjabghhhhfaaDoor
open Go.RowKit

set_option maxRecDepth 100000 in
set_option maxHeartbeats 8000000 in
theorem law_ladderBase (a0 a1 a2 a3 a4 a5 : Int) (w : World) (G : GlsC w) (fA : fits [a0, a1, a2, a3, a4, a5]) :
    Calls Tryd.prog 4 #[.agg #[.int .u64 a0, .int .u64 a1, .int .u64 a2, .int .u64 a3, .int .u64 a4, .int .u64 a5]] w fun e w' => e = .returned (.bool true) ∧ Below w.heap.size w w' := by
  have K40 : Hid _ := v40_lt fA
  have B0 := Blk.new w [.int .u64 a0, .int .u64 a1, .int .u64 a2, .int .u64 a3, .int .u64 a4, .int .u64 a5] 24 (w.heap.size) rfl
  have bel : Below w.heap.size w (w.alloc (.cells [.int .u64 a0, .int .u64 a1, .int .u64 a2, .int .u64 a3, .int .u64 a4, .int .u64 a5].toArray 24)) := ((Below.refl _ _).alloc (Nat.le_refl _) _)
  go_enter Tryd.func4, Tryd.ntmps4
  go_upto_region 1 with fail
  try simp only [us, List.map_cons, List.map_nil] at bel
  generalize (w.alloc (Obj.cells #[.int .u64 a0, .int .u64 a1, .int .u64 a2, .int .u64 a3, .int .u64 a4, .int .u64 a5] 24)) = W at *
  have Bk := B0
  clear B0
  go_wp2_with fail
  refine (up6 (G.below bel)).mono ?_
  rintro e w1 ⟨rfl, hb⟩
  replace Bk := Bk.later hb
  replace bel := below_step bel hb
  clear hb
  have q2 := eql_pt_same
  go_upto_region 2 with fail
  obtain ⟨S1, hS1, KL1, KA1, KD1, KS1, KQ1, KN1, KB1, KM1, KR1⟩ := held3 (w0 := w) (W := _) [(w.heap.size, [.int .u64 a0, .int .u64 a1, .int .u64 a2, .int .u64 a3, .int .u64 a4, .int .u64 a5])] (by
    intro b X h
    simp only [List.mem_cons, List.not_mem_nil, or_false, Prod.mk.injEq] at h
    rcases h with ⟨rfl, rfl⟩
    · exact Bk) bel
  have kb1a : ∀ wx, Hd S1 wx → Blk wx (w.heap.size) [.int .u64 a0, .int .u64 a1, .int .u64 a2, .int .u64 a3, .int .u64 a4, .int .u64 a5] := fun wx h => KM1.out wx _ _ h (by simp)
  have c1a0 := rulec kb1a 0 _ rfl
  have c1a1 := rulec kb1a 1 _ rfl
  have c1a2 := rulec kb1a 2 _ rfl
  have c1a3 := rulec kb1a 3 _ rfl
  have c1a4 := rulec kb1a 4 _ rfl
  have c1a5 := rulec kb1a 5 _ rfl
  have c1al := ruleb kb1a
  clear kb1a
  have hN1 := bel.size
  clear bel Bk
  go_region_held3 (Hd S1)
    (first
      | with_reducible exact KL1.out _ _ (by assumption) hb
      | with_reducible exact KA1.out _ _ (by assumption)
      | with_reducible exact KS1.out _ _ _ (by omega) (by assumption)
      | with_reducible exact KD1.out _ hS1
      | with_reducible exact KD1.out _ (KA1.out _ _ hS1)
      | with_reducible assumption)
    (first
      | (go_at_call 16; go_fit (con_Base (G.below (KB1.out _ (by first | with_reducible assumption | with_reducible exact KA1.out _ _ (by assumption) | with_reducible exact KD1.out _ (by assumption)))) fA); rintro e w' ⟨s0, s1, s2, s3, s4, s5, t0, t1, t2, t3, t4, t5, kk, rfl, TS, hb⟩)
      | (go_at_call 14; go_fit (of6z fA); rintro e w' ⟨v1, rfl, N1, hb⟩)
      | (go_at_call 17; go_fit (r5_G); rintro e w' ⟨v2, rfl, P2, hb⟩; (first | replace N1 := N1.later hb | replace N1 := N1.drew.later hb | skip))
      | (go_at_call 13; go_fit (r5_Times (by first | exact N1 | exact N1.drew) K40.out P2 on_G); rintro e w' ⟨v3, rfl, P3, hb⟩)
      | (go_at_call 12; go_fit (r5_To P3 TS); rintro e w' ⟨rfl, hb⟩))
  all_goals go_wp2
  all_goals (go_ret; exact ⟨rfl, KB1.out _ (by assumption)⟩)

end Go.Proofs.YtdikjabghhhhfaaDoor
