/- modp.Add: a sum's rest. -/
import Derived.Test.YtflnfjekapngkaaDoorRows
import Derived.Test.YtflnfjekapngkaaDoorMOff
import Derived.Deep.RegionHeld3
namespace Go.Proofs.YtflnfjekapngkaaDoor
open Go.RowKit

theorem rest_lt {M i x r : Int} {L T : List Int} (hm : IsMod L i T) (hM : v64 L = M) (h : r = x % M) : r < M := by
  subst hM
  have h0 := (v6_bound L hm.lM hm.fM).1
  have h1 := hm.odd
  rw [h]; exact Int.emod_lt_of_pos _ (by omega)

theorem add_rest {M x y r s z : Int} (hr : r = x % M) (hs : s = y % M) (hz : z = (r + s) % M) : z = (x + y) % M := by
  rw [hz, hr, hs, ← Int.add_emod]

set_option maxRecDepth 100000 in
set_option maxHeartbeats 2000000 in
theorem addm6 {x0 x1 x2 x3 x4 x5 y0 y1 y2 y3 y4 y5 m0 m1 m2 m3 m4 m5 i t0 t1 t2 t3 t4 t5 : Int} {w : World} (fX : fits [x0, x1, x2, x3, x4, x5]) (fY : fits [y0, y1, y2, y3, y4, y5]) (hm : IsMod [m0, m1, m2, m3, m4, m5] i [t0, t1, t2, t3, t4, t5]) :
    Calls Tryd.prog 32 #[.agg #[.int .u64 x0, .int .u64 x1, .int .u64 x2, .int .u64 x3, .int .u64 x4, .int .u64 x5], .agg #[.int .u64 y0, .int .u64 y1, .int .u64 y2, .int .u64 y3, .int .u64 y4, .int .u64 y5], .agg #[.int .u64 m0, .int .u64 m1, .int .u64 m2, .int .u64 m3, .int .u64 m4, .int .u64 m5, .int .u64 i, .int .u64 t0, .int .u64 t1, .int .u64 t2, .int .u64 t3, .int .u64 t4, .int .u64 t5]] w fun e w' => ∃ z0 z1 z2 z3 z4 z5 : Int, e = .returned (.agg #[.int .u64 z0, .int .u64 z1, .int .u64 z2, .int .u64 z3, .int .u64 z4, .int .u64 z5]) ∧ fits [z0, z1, z2, z3, z4, z5] ∧ v64 [z0, z1, z2, z3, z4, z5] = (v64 [x0, x1, x2, x3, x4, x5] + v64 [y0, y1, y2, y3, y4, y5]) % v64 [m0, m1, m2, m3, m4, m5] ∧ Below w.heap.size w w' := by
  have HM : Hid _ := hm
  have fM := hm.fM
  have HB : Hid _ := hm.big
  clear hm
  have B0 := (((Blk.new w (us [x0, x1, x2, x3, x4, x5]) 24 w.heap.size rfl).alloc (.cells (us [y0, y1, y2, y3, y4, y5]).toArray 24)).alloc (.cells (us [m0, m1, m2, m3, m4, m5, i, t0, t1, t2, t3, t4, t5]).toArray 53)).alloc (.cells (us [0, 0, 0, 0, 0, 0]).toArray 24)
  have B1 := ((Blk.new (w.alloc (.cells (us [x0, x1, x2, x3, x4, x5]).toArray 24)) (us [y0, y1, y2, y3, y4, y5]) 24 (w.heap.size + 1) (by simp)).alloc (.cells (us [m0, m1, m2, m3, m4, m5, i, t0, t1, t2, t3, t4, t5]).toArray 53)).alloc (.cells (us [0, 0, 0, 0, 0, 0]).toArray 24)
  have B2 := (Blk.new ((w.alloc (.cells (us [x0, x1, x2, x3, x4, x5]).toArray 24)).alloc (.cells (us [y0, y1, y2, y3, y4, y5]).toArray 24)) (us [m0, m1, m2, m3, m4, m5, i, t0, t1, t2, t3, t4, t5]) 53 (w.heap.size + 1 + 1) (by simp)).alloc (.cells (us [0, 0, 0, 0, 0, 0]).toArray 24)
  have B3 := Blk.new (((w.alloc (.cells (us [x0, x1, x2, x3, x4, x5]).toArray 24)).alloc (.cells (us [y0, y1, y2, y3, y4, y5]).toArray 24)).alloc (.cells (us [m0, m1, m2, m3, m4, m5, i, t0, t1, t2, t3, t4, t5]).toArray 53)) (us [0, 0, 0, 0, 0, 0]) 24 (w.heap.size + 1 + 1 + 1) (by simp)
  have bel : Below w.heap.size w ((((w.alloc (.cells (us [x0, x1, x2, x3, x4, x5]).toArray 24)).alloc (.cells (us [y0, y1, y2, y3, y4, y5]).toArray 24)).alloc (.cells (us [m0, m1, m2, m3, m4, m5, i, t0, t1, t2, t3, t4, t5]).toArray 53)).alloc (.cells (us [0, 0, 0, 0, 0, 0]).toArray 24)) := ((((Below.refl _ _).alloc (Nat.le_refl _) _).alloc (by simp) _).alloc (by simp; omega) _).alloc (by simp; omega) _
  go_enter Tryd.func32, Tryd.ntmps32
  go_wp2_with fail
  simp only [us, List.map_cons, List.map_nil] at B0 B1 B2 B3 bel
  generalize (((w.alloc (Obj.cells #[.int .u64 x0, .int .u64 x1, .int .u64 x2, .int .u64 x3, .int .u64 x4, .int .u64 x5] 24)).alloc (Obj.cells #[.int .u64 y0, .int .u64 y1, .int .u64 y2, .int .u64 y3, .int .u64 y4, .int .u64 y5] 24)).alloc (Obj.cells #[.int .u64 m0, .int .u64 m1, .int .u64 m2, .int .u64 m3, .int .u64 m4, .int .u64 m5, .int .u64 i, .int .u64 t0, .int .u64 t1, .int .u64 t2, .int .u64 t3, .int .u64 t4, .int .u64 t5] 53)).alloc (Obj.cells #[.int .u64 0, .int .u64 0, .int .u64 0, .int .u64 0, .int .u64 0, .int .u64 0] 24) = W at *
  obtain ⟨a0, a1, a2, a3, a4, a5⟩ := B2.cellsM
  have hWr : Wr6 W (w.heap.size + 1 + 1 + 1) := Wr6.of B3
  obtain ⟨c0, c1, c2, c3, c4, c5⟩ := B0.cells6
  obtain ⟨d0, d1, d2, d3, d4, d5⟩ := B1.cells6
  clear B0 B1 B2 B3
  go_region_held3 (fun wx => (wx.cell? ⟨w.heap.size + 1 + 1, 0, none⟩ = some (.int .u64 m0) ∧ wx.cell? ⟨w.heap.size + 1 + 1, 1, none⟩ = some (.int .u64 m1) ∧ wx.cell? ⟨w.heap.size + 1 + 1, 2, none⟩ = some (.int .u64 m2) ∧ wx.cell? ⟨w.heap.size + 1 + 1, 3, none⟩ = some (.int .u64 m3) ∧ wx.cell? ⟨w.heap.size + 1 + 1, 4, none⟩ = some (.int .u64 m4) ∧ wx.cell? ⟨w.heap.size + 1 + 1, 5, none⟩ = some (.int .u64 m5)) ∧ (wx.cell? ⟨w.heap.size, 0, none⟩ = some (.int .u64 x0) ∧ wx.cell? ⟨w.heap.size, 1, none⟩ = some (.int .u64 x1) ∧ wx.cell? ⟨w.heap.size, 2, none⟩ = some (.int .u64 x2) ∧ wx.cell? ⟨w.heap.size, 3, none⟩ = some (.int .u64 x3) ∧ wx.cell? ⟨w.heap.size, 4, none⟩ = some (.int .u64 x4) ∧ wx.cell? ⟨w.heap.size, 5, none⟩ = some (.int .u64 x5)) ∧ (wx.cell? ⟨w.heap.size + 1, 0, none⟩ = some (.int .u64 y0) ∧ wx.cell? ⟨w.heap.size + 1, 1, none⟩ = some (.int .u64 y1) ∧ wx.cell? ⟨w.heap.size + 1, 2, none⟩ = some (.int .u64 y2) ∧ wx.cell? ⟨w.heap.size + 1, 3, none⟩ = some (.int .u64 y3) ∧ wx.cell? ⟨w.heap.size + 1, 4, none⟩ = some (.int .u64 y4) ∧ wx.cell? ⟨w.heap.size + 1, 5, none⟩ = some (.int .u64 y5)) ∧ Wr6 wx (w.heap.size + 1 + 1 + 1) ∧ Below w.heap.size w wx)
    (first
      | (go_split_ands; with_reducible exact ⟨⟨cell_far6 (by assumption) (by omega), cell_far6 (by assumption) (by omega), cell_far6 (by assumption) (by omega), cell_far6 (by assumption) (by omega), cell_far6 (by assumption) (by omega), cell_far6 (by assumption) (by omega)⟩, ⟨cell_far6 (by assumption) (by omega), cell_far6 (by assumption) (by omega), cell_far6 (by assumption) (by omega), cell_far6 (by assumption) (by omega), cell_far6 (by assumption) (by omega), cell_far6 (by assumption) (by omega)⟩, ⟨cell_far6 (by assumption) (by omega), cell_far6 (by assumption) (by omega), cell_far6 (by assumption) (by omega), cell_far6 (by assumption) (by omega), cell_far6 (by assumption) (by omega), cell_far6 (by assumption) (by omega)⟩, Wr6.put (by assumption), below_put6 (by assumption) (by omega)⟩)
      | (go_split_ands; with_reducible exact ⟨⟨cell_later (by assumption) hb, cell_later (by assumption) hb, cell_later (by assumption) hb, cell_later (by assumption) hb, cell_later (by assumption) hb, cell_later (by assumption) hb⟩, ⟨cell_later (by assumption) hb, cell_later (by assumption) hb, cell_later (by assumption) hb, cell_later (by assumption) hb, cell_later (by assumption) hb, cell_later (by assumption) hb⟩, ⟨cell_later (by assumption) hb, cell_later (by assumption) hb, cell_later (by assumption) hb, cell_later (by assumption) hb, cell_later (by assumption) hb, cell_later (by assumption) hb⟩, Wr6.later (by assumption) hb, below_step (by assumption) hb⟩)
      | (exact ⟨⟨a0, a1, a2, a3, a4, a5⟩, ⟨c0, c1, c2, c3, c4, c5⟩, ⟨d0, d1, d2, d3, d4, d5⟩, hWr.drew, bel.drew⟩))
    (first
      | (go_at_call 55; refine (rest6 fX fM HB.out).mono ?_; rintro e w' ⟨r0, r1, r2, r3, r4, r5, rfl, fR, hR, hb⟩; have HR : Hid _ := hR; clear hR)
      | (go_at_call 55; refine (rest6 fY fM HB.out).mono ?_; rintro e w' ⟨s0, s1, s2, s3, s4, s5, rfl, fS, hS, hb⟩; have HS : Hid _ := hS; clear hS)
      | (go_at_call 54; refine (addRests6 fR fS fM (rest_lt HM.out rfl HR.out) (rest_lt HM.out rfl HS.out)).mono ?_; rintro e w' ⟨z0, z1, z2, z3, z4, z5, rfl, fZ, hZ, hb⟩; have HV : Hid _ := add_rest HR.out HS.out hZ; clear hZ; obtain ⟨g0, g1, g2, g3, g4, g5, ⟨h0, h1, h2, h3, h4, h5⟩, ⟨f0, f1, f2, f3, f4, f5⟩⟩ := (Wr6.later (b := w.heap.size + 1 + 1 + 1) (by go_split_ands; assumption) hb).cells))
  all_goals go_split_ands
  all_goals go_wp2
  all_goals exact bodyPost_ret (v := .agg #[.int .u64 z0, .int .u64 z1, .int .u64 z2, .int .u64 z3, .int .u64 z4, .int .u64 z5]) (by simp [results, Tryd.results32, go_sem, h0, h1, h2, h3, h4, h5]) rfl ⟨z0, z1, z2, z3, z4, z5, rfl, fZ, HV.out, by assumption⟩
end Go.Proofs.YtflnfjekapngkaaDoor
