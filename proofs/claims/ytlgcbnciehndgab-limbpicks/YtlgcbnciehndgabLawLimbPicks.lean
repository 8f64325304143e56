/- The law LimbPicks. -/
import Derived.Test.YtlgcbnciehndgabRows
import Derived.Test.YtlgcbnciehndgabOne
import Derived.Test.YtlgcbnciehndgabLPick
import Derived.Test.YtlgcbnciehndgabEq
import Derived.Deep.RegionHeld3
namespace Go.Proofs.Ytlgcbnciehndgab
open Go.RowKit

theorem info_u64 : (Try.prog.info? 22).map (fun i => (i.zero, i.size, i.bytes)) = some (some (.int .u64 0), 1, 8) := by kernel_rfl

theorem pickZ {n x0 x1 x2 x3 x4 x5 y0 y1 y2 y3 y4 y5 z0 z1 z2 z3 z4 z5 : Int} {w : World} (hp : pk n [x0, x1, x2, x3, x4, x5] [y0, y1, y2, y3, y4, y5] = [z0, z1, z2, z3, z4, z5]) (hn : 0 ≤ n ∧ n < 18446744073709551616) (hx : fits [x0, x1, x2, x3, x4, x5]) (hy : fits [y0, y1, y2, y3, y4, y5]) :
    Calls Try.prog 7 #[.int .u64 n, .agg #[.int .u64 x0, .int .u64 x1, .int .u64 x2, .int .u64 x3, .int .u64 x4, .int .u64 x5], .agg #[.int .u64 y0, .int .u64 y1, .int .u64 y2, .int .u64 y3, .int .u64 y4, .int .u64 y5]] w fun e w' => e = .returned (.agg #[.int .u64 z0, .int .u64 z1, .int .u64 z2, .int .u64 z3, .int .u64 z4, .int .u64 z5]) ∧ Below w.heap.size w w' := by
  have h := pick_any n [x0, x1, x2, x3, x4, x5] [y0, y1, y2, y3, y4, y5] w hn.1 hn.2 rfl rfl hx hy
  rw [hp] at h
  exact h

theorem eql_same (x0 x1 x2 x3 x4 x5 : Int) : ∀ w : World, (Op.equalIn 10000 24 (.agg #[.int .u64 x0, .int .u64 x1, .int .u64 x2, .int .u64 x3, .int .u64 x4, .int .u64 x5]) (.agg #[.int .u64 x0, .int .u64 x1, .int .u64 x2, .int .u64 x3, .int .u64 x4, .int .u64 x5])).run Try.prog w = .ok true w := fun w => by
  obtain ⟨i0, hi, _, _, _⟩ := info_parts info_u64
  have h := run_eql_us w Try.underlying24 hi (by kernel_rfl) Try.underlying22 (by kernel_rfl) [x0, x1, x2, x3, x4, x5] [x0, x1, x2, x3, x4, x5] rfl rfl
  rw [decide_eq_true rfl] at h
  exact h

set_option maxRecDepth 100000 in
set_option maxHeartbeats 1000000 in
theorem law_odd (n x0 x1 x2 x3 x4 x5 y0 y1 y2 y3 y4 y5 : Int) (w : World) (hn : n % 2 = 1) (n0 : 0 ≤ n) (n1 : n < 18446744073709551616) (hx : fits [x0, x1, x2, x3, x4, x5]) (hy : fits [y0, y1, y2, y3, y4, y5]) :
    Calls Try.prog 3 #[.int .u64 n, .agg #[.int .u64 x0, .int .u64 x1, .int .u64 x2, .int .u64 x3, .int .u64 x4, .int .u64 x5], .agg #[.int .u64 y0, .int .u64 y1, .int .u64 y2, .int .u64 y3, .int .u64 y4, .int .u64 y5]] w fun e w' => e = .returned (.bool true) ∧ Below w.heap.size w w' := by
  have B0 := ((Blk.new w (us [x0, x1, x2, x3, x4, x5]) 24 w.heap.size rfl).alloc (.cells (us [y0, y1, y2, y3, y4, y5]).toArray 24)).alloc (.cells (us [y0, y1, y2, y3, y4, y5]).toArray 24)
  have B1 := (Blk.new (w.alloc (.cells (us [x0, x1, x2, x3, x4, x5]).toArray 24)) (us [y0, y1, y2, y3, y4, y5]) 24 (w.heap.size + 1) (by simp)).alloc (.cells (us [y0, y1, y2, y3, y4, y5]).toArray 24)
  have B2 := Blk.new ((w.alloc (.cells (us [x0, x1, x2, x3, x4, x5]).toArray 24)).alloc (.cells (us [y0, y1, y2, y3, y4, y5]).toArray 24)) (us [y0, y1, y2, y3, y4, y5]) 24 (w.heap.size + 1 + 1) (by simp)
  have bel : Below w.heap.size w (((w.alloc (.cells (us [x0, x1, x2, x3, x4, x5]).toArray 24)).alloc (.cells (us [y0, y1, y2, y3, y4, y5]).toArray 24)).alloc (.cells (us [y0, y1, y2, y3, y4, y5]).toArray 24)) := (((Below.refl _ _).alloc (Nat.le_refl _) _).alloc (by simp) _).alloc (by simp; omega) _
  have q1 := eql_same 1 0 0 0 0 0
  have q2 := eql_same y0 y1 y2 y3 y4 y5
  have fz : fits [0, 0, 0, 0, 0, 0] := fits_zero 6
  have k1 : pk 0 [1, 0, 0, 0, 0, 0] [0, 0, 0, 0, 0, 0] = [1, 0, 0, 0, 0, 0] := rfl
  have k2 : pk n [x0, x1, x2, x3, x4, x5] [y0, y1, y2, y3, y4, y5] = [y0, y1, y2, y3, y4, y5] := by simp [pk, oddB, hn]
  go_enter Try.func3, Try.ntmps3
  go_wp2_with fail
  simp only [us, List.map_cons, List.map_nil] at B0 B1 B2 bel
  generalize ((w.alloc (Obj.cells #[.int .u64 x0, .int .u64 x1, .int .u64 x2, .int .u64 x3, .int .u64 x4, .int .u64 x5] 24)).alloc (Obj.cells #[.int .u64 y0, .int .u64 y1, .int .u64 y2, .int .u64 y3, .int .u64 y4, .int .u64 y5] 24)).alloc (Obj.cells #[.int .u64 y0, .int .u64 y1, .int .u64 y2, .int .u64 y3, .int .u64 y4, .int .u64 y5] 24) = W at *
  have hsz := B2.lt
  obtain ⟨c0, c1, c2, c3, c4, c5⟩ := B0.cells6
  obtain ⟨e0, e1, e2, e3, e4, e5⟩ := B1.cells6
  obtain ⟨g0, g1, g2, g3, g4, g5⟩ := B2.cells6
  clear B0 B1 B2
  go_region_held3 (fun w' => w'.cell? ⟨w.heap.size, 0, none⟩ = some (.int .u64 x0) ∧ w'.cell? ⟨w.heap.size, 1, none⟩ = some (.int .u64 x1) ∧ w'.cell? ⟨w.heap.size, 2, none⟩ = some (.int .u64 x2) ∧ w'.cell? ⟨w.heap.size, 3, none⟩ = some (.int .u64 x3) ∧ w'.cell? ⟨w.heap.size, 4, none⟩ = some (.int .u64 x4) ∧ w'.cell? ⟨w.heap.size, 5, none⟩ = some (.int .u64 x5) ∧ w'.cell? ⟨w.heap.size + 1, 0, none⟩ = some (.int .u64 y0) ∧ w'.cell? ⟨w.heap.size + 1, 1, none⟩ = some (.int .u64 y1) ∧ w'.cell? ⟨w.heap.size + 1, 2, none⟩ = some (.int .u64 y2) ∧ w'.cell? ⟨w.heap.size + 1, 3, none⟩ = some (.int .u64 y3) ∧ w'.cell? ⟨w.heap.size + 1, 4, none⟩ = some (.int .u64 y4) ∧ w'.cell? ⟨w.heap.size + 1, 5, none⟩ = some (.int .u64 y5) ∧ w'.cell? ⟨w.heap.size + 1 + 1, 0, none⟩ = some (.int .u64 y0) ∧ w'.cell? ⟨w.heap.size + 1 + 1, 1, none⟩ = some (.int .u64 y1) ∧ w'.cell? ⟨w.heap.size + 1 + 1, 2, none⟩ = some (.int .u64 y2) ∧ w'.cell? ⟨w.heap.size + 1 + 1, 3, none⟩ = some (.int .u64 y3) ∧ w'.cell? ⟨w.heap.size + 1 + 1, 4, none⟩ = some (.int .u64 y4) ∧ w'.cell? ⟨w.heap.size + 1 + 1, 5, none⟩ = some (.int .u64 y5) ∧ w.heap.size + 1 + 1 < w'.heap.size ∧ Below w.heap.size w w')
    (first | (exact ⟨c0, c1, c2, c3, c4, c5, e0, e1, e2, e3, e4, e5, g0, g1, g2, g3, g4, g5, hsz, bel.drew⟩) | (go_split_ands; refine ⟨?_, ?_, ?_, ?_, ?_, ?_, ?_, ?_, ?_, ?_, ?_, ?_, ?_, ?_, ?_, ?_, ?_, ?_, ?_, ?_⟩ <;> first | assumption | (rw [hb.cell (by first | assumption | omega | (simp <;> omega))]; assumption) | (have := hb.size; omega) | (refine Below.trans (by assumption) (hb.mono (by omega)))))
    (first | (go_at_call 8; refine (one_any _).mono ?_; rintro e w' ⟨rfl, hb⟩) | (go_at_call 7; refine (pickZ (by first | exact k1 | exact k2) (by first | exact ⟨n0, n1⟩ | decide) (by first | exact fits_one | exact hx) (by first | exact fz | exact hy)).mono ?_; rintro e w' ⟨rfl, hb⟩))
  all_goals go_wp2
  all_goals go_split_ands
  all_goals (go_ret; exact ⟨rfl, by assumption⟩)

set_option maxRecDepth 100000 in
set_option maxHeartbeats 1000000 in
theorem law_even (n x0 x1 x2 x3 x4 x5 y0 y1 y2 y3 y4 y5 : Int) (w : World) (hn : n % 2 = 0) (n0 : 0 ≤ n) (n1 : n < 18446744073709551616) (hx : fits [x0, x1, x2, x3, x4, x5]) (hy : fits [y0, y1, y2, y3, y4, y5]) :
    Calls Try.prog 3 #[.int .u64 n, .agg #[.int .u64 x0, .int .u64 x1, .int .u64 x2, .int .u64 x3, .int .u64 x4, .int .u64 x5], .agg #[.int .u64 y0, .int .u64 y1, .int .u64 y2, .int .u64 y3, .int .u64 y4, .int .u64 y5]] w fun e w' => e = .returned (.bool true) ∧ Below w.heap.size w w' := by
  have B0 := ((Blk.new w (us [x0, x1, x2, x3, x4, x5]) 24 w.heap.size rfl).alloc (.cells (us [y0, y1, y2, y3, y4, y5]).toArray 24)).alloc (.cells (us [x0, x1, x2, x3, x4, x5]).toArray 24)
  have B1 := (Blk.new (w.alloc (.cells (us [x0, x1, x2, x3, x4, x5]).toArray 24)) (us [y0, y1, y2, y3, y4, y5]) 24 (w.heap.size + 1) (by simp)).alloc (.cells (us [x0, x1, x2, x3, x4, x5]).toArray 24)
  have B2 := Blk.new ((w.alloc (.cells (us [x0, x1, x2, x3, x4, x5]).toArray 24)).alloc (.cells (us [y0, y1, y2, y3, y4, y5]).toArray 24)) (us [x0, x1, x2, x3, x4, x5]) 24 (w.heap.size + 1 + 1) (by simp)
  have bel : Below w.heap.size w (((w.alloc (.cells (us [x0, x1, x2, x3, x4, x5]).toArray 24)).alloc (.cells (us [y0, y1, y2, y3, y4, y5]).toArray 24)).alloc (.cells (us [x0, x1, x2, x3, x4, x5]).toArray 24)) := (((Below.refl _ _).alloc (Nat.le_refl _) _).alloc (by simp) _).alloc (by simp; omega) _
  have q1 := eql_same 1 0 0 0 0 0
  have q2 := eql_same x0 x1 x2 x3 x4 x5
  have fz : fits [0, 0, 0, 0, 0, 0] := fits_zero 6
  have k1 : pk 0 [1, 0, 0, 0, 0, 0] [0, 0, 0, 0, 0, 0] = [1, 0, 0, 0, 0, 0] := rfl
  have k2 : pk n [x0, x1, x2, x3, x4, x5] [y0, y1, y2, y3, y4, y5] = [x0, x1, x2, x3, x4, x5] := by simp [pk, oddB, hn]
  go_enter Try.func3, Try.ntmps3
  go_wp2_with fail
  simp only [us, List.map_cons, List.map_nil] at B0 B1 B2 bel
  generalize ((w.alloc (Obj.cells #[.int .u64 x0, .int .u64 x1, .int .u64 x2, .int .u64 x3, .int .u64 x4, .int .u64 x5] 24)).alloc (Obj.cells #[.int .u64 y0, .int .u64 y1, .int .u64 y2, .int .u64 y3, .int .u64 y4, .int .u64 y5] 24)).alloc (Obj.cells #[.int .u64 x0, .int .u64 x1, .int .u64 x2, .int .u64 x3, .int .u64 x4, .int .u64 x5] 24) = W at *
  have hsz := B2.lt
  obtain ⟨c0, c1, c2, c3, c4, c5⟩ := B0.cells6
  obtain ⟨e0, e1, e2, e3, e4, e5⟩ := B1.cells6
  obtain ⟨g0, g1, g2, g3, g4, g5⟩ := B2.cells6
  clear B0 B1 B2
  go_region_held3 (fun w' => w'.cell? ⟨w.heap.size, 0, none⟩ = some (.int .u64 x0) ∧ w'.cell? ⟨w.heap.size, 1, none⟩ = some (.int .u64 x1) ∧ w'.cell? ⟨w.heap.size, 2, none⟩ = some (.int .u64 x2) ∧ w'.cell? ⟨w.heap.size, 3, none⟩ = some (.int .u64 x3) ∧ w'.cell? ⟨w.heap.size, 4, none⟩ = some (.int .u64 x4) ∧ w'.cell? ⟨w.heap.size, 5, none⟩ = some (.int .u64 x5) ∧ w'.cell? ⟨w.heap.size + 1, 0, none⟩ = some (.int .u64 y0) ∧ w'.cell? ⟨w.heap.size + 1, 1, none⟩ = some (.int .u64 y1) ∧ w'.cell? ⟨w.heap.size + 1, 2, none⟩ = some (.int .u64 y2) ∧ w'.cell? ⟨w.heap.size + 1, 3, none⟩ = some (.int .u64 y3) ∧ w'.cell? ⟨w.heap.size + 1, 4, none⟩ = some (.int .u64 y4) ∧ w'.cell? ⟨w.heap.size + 1, 5, none⟩ = some (.int .u64 y5) ∧ w'.cell? ⟨w.heap.size + 1 + 1, 0, none⟩ = some (.int .u64 x0) ∧ w'.cell? ⟨w.heap.size + 1 + 1, 1, none⟩ = some (.int .u64 x1) ∧ w'.cell? ⟨w.heap.size + 1 + 1, 2, none⟩ = some (.int .u64 x2) ∧ w'.cell? ⟨w.heap.size + 1 + 1, 3, none⟩ = some (.int .u64 x3) ∧ w'.cell? ⟨w.heap.size + 1 + 1, 4, none⟩ = some (.int .u64 x4) ∧ w'.cell? ⟨w.heap.size + 1 + 1, 5, none⟩ = some (.int .u64 x5) ∧ w.heap.size + 1 + 1 < w'.heap.size ∧ Below w.heap.size w w')
    (first | (exact ⟨c0, c1, c2, c3, c4, c5, e0, e1, e2, e3, e4, e5, g0, g1, g2, g3, g4, g5, hsz, bel.drew⟩) | (go_split_ands; refine ⟨?_, ?_, ?_, ?_, ?_, ?_, ?_, ?_, ?_, ?_, ?_, ?_, ?_, ?_, ?_, ?_, ?_, ?_, ?_, ?_⟩ <;> first | assumption | (rw [hb.cell (by first | assumption | omega | (simp <;> omega))]; assumption) | (have := hb.size; omega) | (refine Below.trans (by assumption) (hb.mono (by omega)))))
    (first | (go_at_call 8; refine (one_any _).mono ?_; rintro e w' ⟨rfl, hb⟩) | (go_at_call 7; refine (pickZ (by first | exact k1 | exact k2) (by first | exact ⟨n0, n1⟩ | decide) (by first | exact fits_one | exact hx) (by first | exact fz | exact hy)).mono ?_; rintro e w' ⟨rfl, hb⟩))
  all_goals go_wp2
  all_goals go_split_ands
  all_goals (go_ret; exact ⟨rfl, by assumption⟩)

theorem law_limbPicks (n x0 x1 x2 x3 x4 x5 y0 y1 y2 y3 y4 y5 : Int) (w : World) (n0 : 0 ≤ n) (n1 : n < 18446744073709551616) (hx : fits [x0, x1, x2, x3, x4, x5]) (hy : fits [y0, y1, y2, y3, y4, y5]) :
    Calls Try.prog 3 #[.int .u64 n, .agg #[.int .u64 x0, .int .u64 x1, .int .u64 x2, .int .u64 x3, .int .u64 x4, .int .u64 x5], .agg #[.int .u64 y0, .int .u64 y1, .int .u64 y2, .int .u64 y3, .int .u64 y4, .int .u64 y5]] w fun e w' => e = .returned (.bool true) ∧ Below w.heap.size w w' := by
  have h : n % 2 = 1 ∨ n % 2 = 0 := by omega
  rcases h with h | h
  · exact law_odd n x0 x1 x2 x3 x4 x5 y0 y1 y2 y3 y4 y5 w h n0 n1 hx hy
  · exact law_even n x0 x1 x2 x3 x4 x5 y0 y1 y2 y3 y4 y5 w h n0 n1 hx hy
end Go.Proofs.Ytlgcbnciehndgab
