/- The law FieldPrime answers true: the prime, and the rest of any number by it. -/
import Derived.Test.YtflnfjekapngkaaDoorRows
import Derived.Test.YtflnfjekapngkaaDoorFLaw
import Derived.Test.YtflnfjekapngkaaDoorFRest
import Derived.Deep.RegionHeld3
import Derived.Deep.DeepCutAuto
import Derived.Deep.DeepFit
namespace Go.Proofs.YtflnfjekapngkaaDoor
open Go.RowKit

set_option maxRecDepth 100000 in
set_option maxHeartbeats 8000000 in
theorem law_fieldPrime (x0 x1 x2 x3 x4 x5 : Int) (w : World) (G : Gls w) (fX : fits [x0, x1, x2, x3, x4, x5]) :
    Calls Tryd.prog 3 #[.agg #[.int .u64 x0, .int .u64 x1, .int .u64 x2, .int .u64 x3, .int .u64 x4, .int .u64 x5]] w fun e w' => e = .returned (.bool true) ∧ Below w.heap.size w w' := by
  have B0 := Blk.new w (us [x0, x1, x2, x3, x4, x5]) 24 (w.heap.size) rfl
  have bel : Below w.heap.size w (w.alloc (.cells (us [x0, x1, x2, x3, x4, x5]).toArray 24)) := (Below.refl _ _).alloc (Nat.le_refl _) _
  go_enter Tryd.func3, Tryd.ntmps3
  go_upto_region 1 with fail
  simp only [us, List.map_cons, List.map_nil] at B0 bel
  generalize w.alloc (Obj.cells #[.int .u64 x0, .int .u64 x1, .int .u64 x2, .int .u64 x3, .int .u64 x4, .int .u64 x5] 24) = W at *
  obtain ⟨S1, hS1, KL1, KA1, KD1, KS1, KP1, KN1, KB1, KM1, KW1⟩ := held_mk (w0 := w) (W := W) [(w.heap.size, [x0, x1, x2, x3, x4, x5])] [] (by
    intro b X h
    simp only [List.mem_cons, List.not_mem_nil, or_false, Prod.mk.injEq] at h
    rcases h with ⟨rfl, rfl⟩
    · exact B0) (by
    intro b h
    exact absurd h (by simp)) (by
    intro b X h
    simp) bel
  obtain ⟨c1a0, c1a1, c1a2, c1a3, c1a4, c1a5, c1a6⟩ := rule6 (S := Hd S1) (b := w.heap.size) (x0 := x0) (x1 := x1) (x2 := x2) (x3 := x3) (x4 := x4) (x5 := x5) (fun wx h => KM1.out wx _ _ h (by simp))
  have hN1 := bel.size
  clear B0 bel
  go_wp2_with fail
  refine (fp (G.below (KB1.out _ hS1))).mono ?_
  rintro e w1 ⟨rfl, hb⟩
  have hS2 := KL1.out _ _ hS1 hb
  clear hb hS1
  go_wp2_with fail
  refine p_any.mono ?_
  rintro e w2 ⟨v1, rfl, N1, hb⟩
  have hS3 := KL1.out _ _ hS2 hb
  clear hb hS2
  go_wp2_with fail
  refine (is6 fP N1 PP_v).mono ?_
  rintro e w3 ⟨rfl, hb⟩
  have hS1 := KL1.out _ _ hS3 hb
  clear hb hS3 N1
  go_wp2_with fail
  go_region_held3 (Hd S1)
    (first
      | with_reducible exact KP1.out _ _ _ _ _ _ _ _ (by assumption) (by first | (right; simp; done) | (left; omega)) (by omega)
      | with_reducible exact KL1.out _ _ (by assumption) hb
      | with_reducible exact KA1.out _ _ (by assumption)
      | with_reducible exact KS1.out _ _ _ (by omega) (by assumption)
      | with_reducible exact KD1.out _ hS1
      | with_reducible exact KD1.out _ (KA1.out _ _ hS1)
      | with_reducible assumption)
    (first
      | (go_at_call 12; go_fit (frest6 (G.below (KB1.out _ (by first | with_reducible assumption | with_reducible exact KA1.out _ _ (by assumption) | with_reducible exact KD1.out _ (by assumption)))) fX); rintro e w' ⟨z0, z1, z2, z3, z4, z5, rfl, fZ, hv, hb⟩; have HZ : Hid _ := hv; clear hv)
      | (go_at_call 14; go_fit (num6 fX); rintro e w' ⟨va, rfl, NA, hb⟩)
      | (go_at_call 13; go_fit (prest NA (num_30 _ rfl fX)); rintro e w' ⟨vr, rfl, NR, hb⟩)
      | (go_at_call 9; go_fit (is6 fZ NR HZ.out); rintro e w' ⟨rfl, hb⟩))
  all_goals go_wp2
  all_goals (go_ret; exact ⟨rfl, KB1.out _ (by assumption)⟩)
end Go.Proofs.YtflnfjekapngkaaDoor
