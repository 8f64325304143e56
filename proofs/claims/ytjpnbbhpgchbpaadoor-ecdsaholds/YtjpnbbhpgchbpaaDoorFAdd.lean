/- field.Add: modulo the prime. field.Sub: modulo the prime. field.Mul: modulo the prime. -/
import Derived.Test.YtjpnbbhpgchbpaaDoorRows
import Derived.Test.YtjpnbbhpgchbpaaDoorFBase
import Derived.Test.YtjpnbbhpgchbpaaDoorMMul
import Derived.Deep.RegionHeld3
import Derived.Deep.DeepCutAuto
import Derived.Deep.DeepFit
namespace Go.Proofs.YtjpnbbhpgchbpaaDoor
open Go.RowKit

set_option maxRecDepth 100000 in
set_option maxHeartbeats 2000000 in
theorem fadd6 {x0 x1 x2 x3 x4 x5 y0 y1 y2 y3 y4 y5 : Int} {w : World} (G : Gls w) (fX : fits [x0, x1, x2, x3, x4, x5]) (fY : fits [y0, y1, y2, y3, y4, y5]) :
    Calls Tryd.prog 53 #[.agg #[.int .u64 x0, .int .u64 x1, .int .u64 x2, .int .u64 x3, .int .u64 x4, .int .u64 x5], .agg #[.int .u64 y0, .int .u64 y1, .int .u64 y2, .int .u64 y3, .int .u64 y4, .int .u64 y5]] w fun e w' => ∃ z0 z1 z2 z3 z4 z5 : Int, e = .returned (.agg #[.int .u64 z0, .int .u64 z1, .int .u64 z2, .int .u64 z3, .int .u64 z4, .int .u64 z5]) ∧ fits [z0, z1, z2, z3, z4, z5] ∧ v64 [z0, z1, z2, z3, z4, z5] = (v64 [x0, x1, x2, x3, x4, x5] + v64 [y0, y1, y2, y3, y4, y5]) % PP ∧ Below w.heap.size w w' := by
  have B0 := ((Blk.new w (us [x0, x1, x2, x3, x4, x5]) 24 (w.heap.size) rfl).alloc (.cells (us [y0, y1, y2, y3, y4, y5]).toArray 24)).alloc (.cells (us [0, 0, 0, 0, 0, 0]).toArray 24)
  have B1 := (Blk.new (w.alloc (.cells (us [x0, x1, x2, x3, x4, x5]).toArray 24)) (us [y0, y1, y2, y3, y4, y5]) 24 (w.heap.size + 1) (by simp)).alloc (.cells (us [0, 0, 0, 0, 0, 0]).toArray 24)
  have B2 := Blk.new ((w.alloc (.cells (us [x0, x1, x2, x3, x4, x5]).toArray 24)).alloc (.cells (us [y0, y1, y2, y3, y4, y5]).toArray 24)) (us [0, 0, 0, 0, 0, 0]) 24 (w.heap.size + 1 + 1) (by simp)
  have bel : Below w.heap.size w (((w.alloc (.cells (us [x0, x1, x2, x3, x4, x5]).toArray 24)).alloc (.cells (us [y0, y1, y2, y3, y4, y5]).toArray 24)).alloc (.cells (us [0, 0, 0, 0, 0, 0]).toArray 24)) := (((Below.refl _ _).alloc (Nat.le_refl _) _).alloc (by simp) _).alloc (by simp; omega) _
  have WR : Wr6 _ (w.heap.size + 1 + 1) := Wr6.of B2
  go_enter Tryd.func53, Tryd.ntmps53
  go_wp2_with fail
  simp only [us, List.map_cons, List.map_nil] at B0 B1 WR bel
  generalize ((w.alloc (Obj.cells #[.int .u64 x0, .int .u64 x1, .int .u64 x2, .int .u64 x3, .int .u64 x4, .int .u64 x5] 24)).alloc (Obj.cells #[.int .u64 y0, .int .u64 y1, .int .u64 y2, .int .u64 y3, .int .u64 y4, .int .u64 y5] 24)).alloc (Obj.cells #[.int .u64 0, .int .u64 0, .int .u64 0, .int .u64 0, .int .u64 0, .int .u64 0] 24) = W at *
  obtain ⟨S1, hS1, KL1, KA1, KD1, KS1, KP1, KN1, KB1, KM1, KW1⟩ := held_mk (w0 := w) (W := W) [(w.heap.size, [x0, x1, x2, x3, x4, x5]), (w.heap.size + 1, [y0, y1, y2, y3, y4, y5])] [w.heap.size + 1 + 1] (by
    intro b X h
    simp only [List.mem_cons, List.not_mem_nil, or_false, Prod.mk.injEq] at h
    rcases h with ⟨rfl, rfl⟩ | ⟨rfl, rfl⟩
    · exact B0
    · exact B1) (by
    intro b h
    simp only [List.mem_cons, List.not_mem_nil, or_false] at h
    rcases h with rfl
    · exact WR) (by
    intro b X h
    simp only [List.mem_cons, List.not_mem_nil, or_false, Prod.mk.injEq] at h ⊢
    omega) bel
  obtain ⟨c1a0, c1a1, c1a2, c1a3, c1a4, c1a5, c1a6⟩ := rule6 (S := Hd S1) (b := w.heap.size) (x0 := x0) (x1 := x1) (x2 := x2) (x3 := x3) (x4 := x4) (x5 := x5) (fun wx h => KM1.out wx _ _ h (by simp))
  obtain ⟨c1b0, c1b1, c1b2, c1b3, c1b4, c1b5, c1b6⟩ := rule6 (S := Hd S1) (b := w.heap.size + 1) (x0 := y0) (x1 := y1) (x2 := y2) (x3 := y3) (x4 := y4) (x5 := y5) (fun wx h => KM1.out wx _ _ h (by simp))
  obtain ⟨⟨d1a0, d1a1, d1a2, d1a3, d1a4, d1a5⟩, ⟨d1af0, d1af1, d1af2, d1af3, d1af4, d1af5⟩, d1alt⟩ := ruleW (S := Hd S1) (b := w.heap.size + 1 + 1) (fun wx h => KW1.out wx _ h (by simp))
  have hN1 := bel.size
  clear B0 B1 B2 bel
  go_region_held3 (Hd S1)
    (first
      | with_reducible exact KP1.out _ _ _ _ _ _ _ _ (by assumption) (by first | (right; simp; done) | (left; omega)) (by omega)
      | with_reducible exact KL1.out _ _ (by assumption) hb
      | with_reducible exact KA1.out _ _ (by assumption)
      | with_reducible exact KS1.out _ _ _ (by omega) (by assumption)
      | with_reducible exact KD1.out _ hS1
      | with_reducible exact KD1.out _ (KA1.out _ _ hS1)
      | with_reducible assumption)
    (first
      | (go_at_call 62; go_fit (fmod (G.below (KB1.out _ (by first | with_reducible assumption | with_reducible exact KA1.out _ _ (by assumption) | with_reducible exact KD1.out _ (by assumption))))); rintro e w' ⟨rfl, hb⟩)
      | (go_at_call 34; go_fit (addm6 fX fY isP); rintro e w' ⟨z0, z1, z2, z3, z4, z5, rfl, fZ, hv, hb⟩; rw [PP_v] at hv; have HV : Hid _ := hv; clear hv; obtain ⟨g0, g1, g2, g3, g4, g5, ⟨h0, h1, h2, h3, h4, h5⟩, ⟨f0, f1, f2, f3, f4, f5⟩⟩ := (KW1.out _ _ (KL1.out _ _ (by assumption) hb) (by simp) : Wr6 w' (w.heap.size + 1 + 1)).cells))
  all_goals go_wp2
  all_goals exact bodyPost_ret (v := .agg #[.int .u64 z0, .int .u64 z1, .int .u64 z2, .int .u64 z3, .int .u64 z4, .int .u64 z5]) (by simp [results, Tryd.results53, go_sem, h0, h1, h2, h3, h4, h5]) rfl ⟨z0, z1, z2, z3, z4, z5, rfl, fZ, HV.out, KB1.out _ (by assumption)⟩
end Go.Proofs.YtjpnbbhpgchbpaaDoor

namespace Go.Proofs.YtjpnbbhpgchbpaaDoor
open Go.RowKit

set_option maxRecDepth 100000 in
set_option maxHeartbeats 2000000 in
theorem fsub6 {x0 x1 x2 x3 x4 x5 y0 y1 y2 y3 y4 y5 : Int} {w : World} (G : Gls w) (fX : fits [x0, x1, x2, x3, x4, x5]) (fY : fits [y0, y1, y2, y3, y4, y5]) :
    Calls Tryd.prog 52 #[.agg #[.int .u64 x0, .int .u64 x1, .int .u64 x2, .int .u64 x3, .int .u64 x4, .int .u64 x5], .agg #[.int .u64 y0, .int .u64 y1, .int .u64 y2, .int .u64 y3, .int .u64 y4, .int .u64 y5]] w fun e w' => ∃ z0 z1 z2 z3 z4 z5 : Int, e = .returned (.agg #[.int .u64 z0, .int .u64 z1, .int .u64 z2, .int .u64 z3, .int .u64 z4, .int .u64 z5]) ∧ fits [z0, z1, z2, z3, z4, z5] ∧ v64 [z0, z1, z2, z3, z4, z5] = (v64 [x0, x1, x2, x3, x4, x5] - v64 [y0, y1, y2, y3, y4, y5]) % PP ∧ Below w.heap.size w w' := by
  have B0 := ((Blk.new w (us [x0, x1, x2, x3, x4, x5]) 24 (w.heap.size) rfl).alloc (.cells (us [y0, y1, y2, y3, y4, y5]).toArray 24)).alloc (.cells (us [0, 0, 0, 0, 0, 0]).toArray 24)
  have B1 := (Blk.new (w.alloc (.cells (us [x0, x1, x2, x3, x4, x5]).toArray 24)) (us [y0, y1, y2, y3, y4, y5]) 24 (w.heap.size + 1) (by simp)).alloc (.cells (us [0, 0, 0, 0, 0, 0]).toArray 24)
  have B2 := Blk.new ((w.alloc (.cells (us [x0, x1, x2, x3, x4, x5]).toArray 24)).alloc (.cells (us [y0, y1, y2, y3, y4, y5]).toArray 24)) (us [0, 0, 0, 0, 0, 0]) 24 (w.heap.size + 1 + 1) (by simp)
  have bel : Below w.heap.size w (((w.alloc (.cells (us [x0, x1, x2, x3, x4, x5]).toArray 24)).alloc (.cells (us [y0, y1, y2, y3, y4, y5]).toArray 24)).alloc (.cells (us [0, 0, 0, 0, 0, 0]).toArray 24)) := (((Below.refl _ _).alloc (Nat.le_refl _) _).alloc (by simp) _).alloc (by simp; omega) _
  have WR : Wr6 _ (w.heap.size + 1 + 1) := Wr6.of B2
  go_enter Tryd.func52, Tryd.ntmps52
  go_wp2_with fail
  simp only [us, List.map_cons, List.map_nil] at B0 B1 WR bel
  generalize ((w.alloc (Obj.cells #[.int .u64 x0, .int .u64 x1, .int .u64 x2, .int .u64 x3, .int .u64 x4, .int .u64 x5] 24)).alloc (Obj.cells #[.int .u64 y0, .int .u64 y1, .int .u64 y2, .int .u64 y3, .int .u64 y4, .int .u64 y5] 24)).alloc (Obj.cells #[.int .u64 0, .int .u64 0, .int .u64 0, .int .u64 0, .int .u64 0, .int .u64 0] 24) = W at *
  obtain ⟨S1, hS1, KL1, KA1, KD1, KS1, KP1, KN1, KB1, KM1, KW1⟩ := held_mk (w0 := w) (W := W) [(w.heap.size, [x0, x1, x2, x3, x4, x5]), (w.heap.size + 1, [y0, y1, y2, y3, y4, y5])] [w.heap.size + 1 + 1] (by
    intro b X h
    simp only [List.mem_cons, List.not_mem_nil, or_false, Prod.mk.injEq] at h
    rcases h with ⟨rfl, rfl⟩ | ⟨rfl, rfl⟩
    · exact B0
    · exact B1) (by
    intro b h
    simp only [List.mem_cons, List.not_mem_nil, or_false] at h
    rcases h with rfl
    · exact WR) (by
    intro b X h
    simp only [List.mem_cons, List.not_mem_nil, or_false, Prod.mk.injEq] at h ⊢
    omega) bel
  obtain ⟨c1a0, c1a1, c1a2, c1a3, c1a4, c1a5, c1a6⟩ := rule6 (S := Hd S1) (b := w.heap.size) (x0 := x0) (x1 := x1) (x2 := x2) (x3 := x3) (x4 := x4) (x5 := x5) (fun wx h => KM1.out wx _ _ h (by simp))
  obtain ⟨c1b0, c1b1, c1b2, c1b3, c1b4, c1b5, c1b6⟩ := rule6 (S := Hd S1) (b := w.heap.size + 1) (x0 := y0) (x1 := y1) (x2 := y2) (x3 := y3) (x4 := y4) (x5 := y5) (fun wx h => KM1.out wx _ _ h (by simp))
  obtain ⟨⟨d1a0, d1a1, d1a2, d1a3, d1a4, d1a5⟩, ⟨d1af0, d1af1, d1af2, d1af3, d1af4, d1af5⟩, d1alt⟩ := ruleW (S := Hd S1) (b := w.heap.size + 1 + 1) (fun wx h => KW1.out wx _ h (by simp))
  have hN1 := bel.size
  clear B0 B1 B2 bel
  go_region_held3 (Hd S1)
    (first
      | with_reducible exact KP1.out _ _ _ _ _ _ _ _ (by assumption) (by first | (right; simp; done) | (left; omega)) (by omega)
      | with_reducible exact KL1.out _ _ (by assumption) hb
      | with_reducible exact KA1.out _ _ (by assumption)
      | with_reducible exact KS1.out _ _ _ (by omega) (by assumption)
      | with_reducible exact KD1.out _ hS1
      | with_reducible exact KD1.out _ (KA1.out _ _ hS1)
      | with_reducible assumption)
    (first
      | (go_at_call 62; go_fit (fmod (G.below (KB1.out _ (by first | with_reducible assumption | with_reducible exact KA1.out _ _ (by assumption) | with_reducible exact KD1.out _ (by assumption))))); rintro e w' ⟨rfl, hb⟩)
      | (go_at_call 63; go_fit (subm6 fX fY isP); rintro e w' ⟨z0, z1, z2, z3, z4, z5, rfl, fZ, hv, hb⟩; rw [PP_v] at hv; have HV : Hid _ := hv; clear hv; obtain ⟨g0, g1, g2, g3, g4, g5, ⟨h0, h1, h2, h3, h4, h5⟩, ⟨f0, f1, f2, f3, f4, f5⟩⟩ := (KW1.out _ _ (KL1.out _ _ (by assumption) hb) (by simp) : Wr6 w' (w.heap.size + 1 + 1)).cells))
  all_goals go_wp2
  all_goals exact bodyPost_ret (v := .agg #[.int .u64 z0, .int .u64 z1, .int .u64 z2, .int .u64 z3, .int .u64 z4, .int .u64 z5]) (by simp [results, Tryd.results52, go_sem, h0, h1, h2, h3, h4, h5]) rfl ⟨z0, z1, z2, z3, z4, z5, rfl, fZ, HV.out, KB1.out _ (by assumption)⟩
end Go.Proofs.YtjpnbbhpgchbpaaDoor

namespace Go.Proofs.YtjpnbbhpgchbpaaDoor
open Go.RowKit

set_option maxRecDepth 100000 in
set_option maxHeartbeats 2000000 in
theorem fmul6 {x0 x1 x2 x3 x4 x5 y0 y1 y2 y3 y4 y5 : Int} {w : World} (G : Gls w) (fX : fits [x0, x1, x2, x3, x4, x5]) (fY : fits [y0, y1, y2, y3, y4, y5]) :
    Calls Tryd.prog 51 #[.agg #[.int .u64 x0, .int .u64 x1, .int .u64 x2, .int .u64 x3, .int .u64 x4, .int .u64 x5], .agg #[.int .u64 y0, .int .u64 y1, .int .u64 y2, .int .u64 y3, .int .u64 y4, .int .u64 y5]] w fun e w' => ∃ z0 z1 z2 z3 z4 z5 : Int, e = .returned (.agg #[.int .u64 z0, .int .u64 z1, .int .u64 z2, .int .u64 z3, .int .u64 z4, .int .u64 z5]) ∧ fits [z0, z1, z2, z3, z4, z5] ∧ v64 [z0, z1, z2, z3, z4, z5] = (v64 [x0, x1, x2, x3, x4, x5] * v64 [y0, y1, y2, y3, y4, y5]) % PP ∧ Below w.heap.size w w' := by
  have B0 := ((Blk.new w (us [x0, x1, x2, x3, x4, x5]) 24 (w.heap.size) rfl).alloc (.cells (us [y0, y1, y2, y3, y4, y5]).toArray 24)).alloc (.cells (us [0, 0, 0, 0, 0, 0]).toArray 24)
  have B1 := (Blk.new (w.alloc (.cells (us [x0, x1, x2, x3, x4, x5]).toArray 24)) (us [y0, y1, y2, y3, y4, y5]) 24 (w.heap.size + 1) (by simp)).alloc (.cells (us [0, 0, 0, 0, 0, 0]).toArray 24)
  have B2 := Blk.new ((w.alloc (.cells (us [x0, x1, x2, x3, x4, x5]).toArray 24)).alloc (.cells (us [y0, y1, y2, y3, y4, y5]).toArray 24)) (us [0, 0, 0, 0, 0, 0]) 24 (w.heap.size + 1 + 1) (by simp)
  have bel : Below w.heap.size w (((w.alloc (.cells (us [x0, x1, x2, x3, x4, x5]).toArray 24)).alloc (.cells (us [y0, y1, y2, y3, y4, y5]).toArray 24)).alloc (.cells (us [0, 0, 0, 0, 0, 0]).toArray 24)) := (((Below.refl _ _).alloc (Nat.le_refl _) _).alloc (by simp) _).alloc (by simp; omega) _
  have WR : Wr6 _ (w.heap.size + 1 + 1) := Wr6.of B2
  go_enter Tryd.func51, Tryd.ntmps51
  go_wp2_with fail
  simp only [us, List.map_cons, List.map_nil] at B0 B1 WR bel
  generalize ((w.alloc (Obj.cells #[.int .u64 x0, .int .u64 x1, .int .u64 x2, .int .u64 x3, .int .u64 x4, .int .u64 x5] 24)).alloc (Obj.cells #[.int .u64 y0, .int .u64 y1, .int .u64 y2, .int .u64 y3, .int .u64 y4, .int .u64 y5] 24)).alloc (Obj.cells #[.int .u64 0, .int .u64 0, .int .u64 0, .int .u64 0, .int .u64 0, .int .u64 0] 24) = W at *
  obtain ⟨S1, hS1, KL1, KA1, KD1, KS1, KP1, KN1, KB1, KM1, KW1⟩ := held_mk (w0 := w) (W := W) [(w.heap.size, [x0, x1, x2, x3, x4, x5]), (w.heap.size + 1, [y0, y1, y2, y3, y4, y5])] [w.heap.size + 1 + 1] (by
    intro b X h
    simp only [List.mem_cons, List.not_mem_nil, or_false, Prod.mk.injEq] at h
    rcases h with ⟨rfl, rfl⟩ | ⟨rfl, rfl⟩
    · exact B0
    · exact B1) (by
    intro b h
    simp only [List.mem_cons, List.not_mem_nil, or_false] at h
    rcases h with rfl
    · exact WR) (by
    intro b X h
    simp only [List.mem_cons, List.not_mem_nil, or_false, Prod.mk.injEq] at h ⊢
    omega) bel
  obtain ⟨c1a0, c1a1, c1a2, c1a3, c1a4, c1a5, c1a6⟩ := rule6 (S := Hd S1) (b := w.heap.size) (x0 := x0) (x1 := x1) (x2 := x2) (x3 := x3) (x4 := x4) (x5 := x5) (fun wx h => KM1.out wx _ _ h (by simp))
  obtain ⟨c1b0, c1b1, c1b2, c1b3, c1b4, c1b5, c1b6⟩ := rule6 (S := Hd S1) (b := w.heap.size + 1) (x0 := y0) (x1 := y1) (x2 := y2) (x3 := y3) (x4 := y4) (x5 := y5) (fun wx h => KM1.out wx _ _ h (by simp))
  obtain ⟨⟨d1a0, d1a1, d1a2, d1a3, d1a4, d1a5⟩, ⟨d1af0, d1af1, d1af2, d1af3, d1af4, d1af5⟩, d1alt⟩ := ruleW (S := Hd S1) (b := w.heap.size + 1 + 1) (fun wx h => KW1.out wx _ h (by simp))
  have hN1 := bel.size
  clear B0 B1 B2 bel
  go_region_held3 (Hd S1)
    (first
      | with_reducible exact KP1.out _ _ _ _ _ _ _ _ (by assumption) (by first | (right; simp; done) | (left; omega)) (by omega)
      | with_reducible exact KL1.out _ _ (by assumption) hb
      | with_reducible exact KA1.out _ _ (by assumption)
      | with_reducible exact KS1.out _ _ _ (by omega) (by assumption)
      | with_reducible exact KD1.out _ hS1
      | with_reducible exact KD1.out _ (KA1.out _ _ hS1)
      | with_reducible assumption)
    (first
      | (go_at_call 62; go_fit (fmod (G.below (KB1.out _ (by first | with_reducible assumption | with_reducible exact KA1.out _ _ (by assumption) | with_reducible exact KD1.out _ (by assumption))))); rintro e w' ⟨rfl, hb⟩)
      | (go_at_call 32; go_fit (mul6 fX fY isP); rintro e w' ⟨z0, z1, z2, z3, z4, z5, rfl, fZ, hv, hb⟩; rw [PP_v] at hv; have HV : Hid _ := hv; clear hv; obtain ⟨g0, g1, g2, g3, g4, g5, ⟨h0, h1, h2, h3, h4, h5⟩, ⟨f0, f1, f2, f3, f4, f5⟩⟩ := (KW1.out _ _ (KL1.out _ _ (by assumption) hb) (by simp) : Wr6 w' (w.heap.size + 1 + 1)).cells))
  all_goals go_wp2
  all_goals exact bodyPost_ret (v := .agg #[.int .u64 z0, .int .u64 z1, .int .u64 z2, .int .u64 z3, .int .u64 z4, .int .u64 z5]) (by simp [results, Tryd.results51, go_sem, h0, h1, h2, h3, h4, h5]) rfl ⟨z0, z1, z2, z3, z4, z5, rfl, fZ, HV.out, KB1.out _ (by assumption)⟩
end Go.Proofs.YtjpnbbhpgchbpaaDoor
