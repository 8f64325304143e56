/- The law OrderSums answers true: the order; the rest of any number, and of any sum. -/
import Derived.Test.YtnhjaldifpiaiaaDoorRows
import Derived.Test.YtnhjaldifpiaiaaDoorOLaw
import Derived.Test.YtnhjaldifpiaiaaDoorOAdd
import Derived.Deep.WholeRow
import Derived.Deep.RegionHeld3
import Derived.Deep.DeepCutAuto
import Derived.Deep.DeepFit
namespace Go.Proofs.YtnhjaldifpiaiaaDoor
open Go.RowKit

set_option maxRecDepth 100000 in
set_option maxHeartbeats 8000000 in
theorem law_orderSums (x0 x1 x2 x3 x4 x5 y0 y1 y2 y3 y4 y5 : Int) (w : World) (G : GlsO w) (fX : fits [x0, x1, x2, x3, x4, x5]) (fY : fits [y0, y1, y2, y3, y4, y5]) :
    Calls Tryd.prog 4 #[.agg #[.int .u64 x0, .int .u64 x1, .int .u64 x2, .int .u64 x3, .int .u64 x4, .int .u64 x5], .agg #[.int .u64 y0, .int .u64 y1, .int .u64 y2, .int .u64 y3, .int .u64 y4, .int .u64 y5]] w fun e w' => e = .returned (.bool true) ∧ Below w.heap.size w w' := by
  have B0 := (Blk.new w (us [x0, x1, x2, x3, x4, x5]) 24 (w.heap.size) rfl).alloc (.cells (us [y0, y1, y2, y3, y4, y5]).toArray 24)
  have B1 := Blk.new (w.alloc (.cells (us [x0, x1, x2, x3, x4, x5]).toArray 24)) (us [y0, y1, y2, y3, y4, y5]) 24 (w.heap.size + 1) (by simp)
  have bel : Below w.heap.size w ((w.alloc (.cells (us [x0, x1, x2, x3, x4, x5]).toArray 24)).alloc (.cells (us [y0, y1, y2, y3, y4, y5]).toArray 24)) := ((Below.refl _ _).alloc (Nat.le_refl _) _).alloc (by simp) _
  go_enter Tryd.func4, Tryd.ntmps4
  go_upto_region 1 with fail
  simp only [us, List.map_cons, List.map_nil] at B0 B1 bel
  generalize (w.alloc (Obj.cells #[.int .u64 x0, .int .u64 x1, .int .u64 x2, .int .u64 x3, .int .u64 x4, .int .u64 x5] 24)).alloc (Obj.cells #[.int .u64 y0, .int .u64 y1, .int .u64 y2, .int .u64 y3, .int .u64 y4, .int .u64 y5] 24) = W at *
  obtain ⟨S1, hS1, KL1, KA1, KD1, KS1, KP1, KN1, KB1, KM1, KW1⟩ := held_mk (w0 := w) (W := W) [(w.heap.size, [x0, x1, x2, x3, x4, x5]), (w.heap.size + 1, [y0, y1, y2, y3, y4, y5])] [] (by
    intro b X h
    simp only [List.mem_cons, List.not_mem_nil, or_false, Prod.mk.injEq] at h
    rcases h with ⟨rfl, rfl⟩ | ⟨rfl, rfl⟩
    · exact B0
    · exact B1) (by
    intro b h
    exact absurd h (by simp)) (by
    intro b X h
    simp) bel
  obtain ⟨c1a0, c1a1, c1a2, c1a3, c1a4, c1a5, c1a6⟩ := rule6 (S := Hd S1) (b := w.heap.size) (x0 := x0) (x1 := x1) (x2 := x2) (x3 := x3) (x4 := x4) (x5 := x5) (fun wx h => KM1.out wx _ _ h (by simp))
  obtain ⟨c1b0, c1b1, c1b2, c1b3, c1b4, c1b5, c1b6⟩ := rule6 (S := Hd S1) (b := w.heap.size + 1) (x0 := y0) (x1 := y1) (x2 := y2) (x3 := y3) (x4 := y4) (x5 := y5) (fun wx h => KM1.out wx _ _ h (by simp))
  have hN1 := bel.size
  clear B0 B1 bel
  go_wp2_with fail
  refine (on6 (G.below (KB1.out _ hS1))).mono ?_
  rintro e w1 ⟨rfl, hb⟩
  have hS2 := KL1.out _ _ hS1 hb
  clear hb hS1
  go_wp2_with fail
  refine n_any.mono ?_
  rintro e w2 ⟨v1, rfl, N1, hb⟩
  have hS3 := KL1.out _ _ hS2 hb
  clear hb hS2
  go_wp2_with fail
  refine (is6o fQ N1 QQ_v).mono ?_
  rintro e w3 ⟨rfl, hb⟩
  have hS1 := KL1.out _ _ hS3 hb
  clear hb hS3 N1
  go_upto_region 2 with fail
  go_cut [6] (fun p wx => p = .bool true ∧ Hd S1 wx)
  case first =>
    go_region_held3 (Hd S1)
      (first
        | with_reducible exact KP1.out _ _ _ _ _ _ _ _ (by assumption) (by first | (right; simp; done) | (left; omega)) (by omega)
        | with_reducible exact KL1.out _ _ (by assumption) hb
        | with_reducible exact KA1.out _ _ (by assumption)
        | with_reducible exact KS1.out _ _ _ (by omega) (by assumption)
        | with_reducible exact KD1.out _ hS1
        | with_reducible exact KD1.out _ (KA1.out _ _ hS1)
        | with_reducible assumption)
      (first
        | (go_at_call 20; go_fit (orest6 (G.below (KB1.out _ (by first | with_reducible assumption | with_reducible exact KA1.out _ _ (by assumption) | with_reducible exact KD1.out _ (by assumption)))) fX); rintro e w' ⟨z0, z1, z2, z3, z4, z5, rfl, fZ, hv, hb⟩; have HZ : Hid _ := hv; clear hv)
        | (go_at_call 22; go_fit (num6o fX); rintro e w' ⟨va, rfl, NA, hb⟩)
        | (go_at_call 21; go_fit (nrest NA (num_30 _ rfl fX)); rintro e w' ⟨vr, rfl, NR, hb⟩)
        | (go_at_call 17; go_fit (is6o fZ NR HZ.out); rintro e w' ⟨rfl, hb⟩))
    all_goals
      go_wp2_with fail
      go_meet
      exact ⟨rfl, by with_reducible assumption⟩
  case rest =>
    clear hS1
    obtain ⟨rfl, hS1⟩ := hcut
    go_upto_region 3 with fail
    go_cut [7] (fun p wx => p = .bool true ∧ Hd S1 wx)
    case first =>
      go_region_held3 (Hd S1)
        (first
          | with_reducible exact KP1.out _ _ _ _ _ _ _ _ (by assumption) (by first | (right; simp; done) | (left; omega)) (by omega)
          | with_reducible exact KL1.out _ _ (by assumption) hb
          | with_reducible exact KA1.out _ _ (by assumption)
          | with_reducible exact KS1.out _ _ _ (by omega) (by assumption)
          | with_reducible exact KD1.out _ hS1
          | with_reducible exact KD1.out _ (KA1.out _ _ hS1)
          | with_reducible assumption)
        (first
          | (go_at_call 23; go_fit (oadd6 (G.below (KB1.out _ (by first | with_reducible assumption | with_reducible exact KA1.out _ _ (by assumption) | with_reducible exact KD1.out _ (by assumption)))) fX fY); rintro e w' ⟨z0, z1, z2, z3, z4, z5, rfl, fZ, hv, hb⟩; have HZ : Hid _ := hv; clear hv)
          | (go_at_call 22; go_fit (num6o fX); rintro e w' ⟨va, rfl, NA, hb⟩; (first | replace NB := NB.later hb | replace NB := NB.drew.later hb | skip))
          | (go_at_call 22; go_fit (num6o fY); rintro e w' ⟨vb, rfl, NB, hb⟩; (first | replace NA := NA.later hb | replace NA := NA.drew.later hb | skip))
          | (go_at_call 24; go_fit (radd_any _ _ _ _ _ NA NB (num_30 _ rfl fX) (num_30 _ rfl fY)); rintro e w' ⟨vs, rfl, NS, hb⟩)
          | (go_at_call 21; go_fit (nrest NS (sum_30 _ _ rfl rfl fX fY)); rintro e w' ⟨vr, rfl, NR, hb⟩)
          | (go_at_call 17; go_fit (is6o fZ NR HZ.out); rintro e w' ⟨rfl, hb⟩))
      all_goals
        go_wp2_with fail
        go_meet
        exact ⟨rfl, by with_reducible assumption⟩
    case rest =>
      clear hS1
      obtain ⟨rfl, hS1⟩ := hcut
      go_wp2_with fail
      refine (five_any (G.below (KB1.out _ hS1))).mono ?_
      rintro e w9 ⟨rfl, hb⟩
      have hS2 := KL1.out _ _ hS1 hb
      clear hb hS1
      go_wp2_with fail
      go_ret
      exact ⟨rfl, KB1.out _ hS2⟩
end Go.Proofs.YtnhjaldifpiaiaaDoor
