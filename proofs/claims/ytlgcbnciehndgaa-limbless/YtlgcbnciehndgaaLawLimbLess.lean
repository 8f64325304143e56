/- The law LimbLess. -/
import Derived.Test.YtlgcbnciehndgaaRows
import Derived.Test.YtlgcbnciehndgaaOne
import Derived.Test.YtlgcbnciehndgaaTruth
import Derived.Test.YtlgcbnciehndgaaLLess
import Derived.Test.YtlgcbnciehndgaaROf6
import Derived.Test.YtlgcbnciehndgaaRCmp
import Derived.Deep.RegionHeld3
namespace Go.Proofs.Ytlgcbnciehndgaa
open Go.RowKit

theorem of66 {x0 x1 x2 x3 x4 x5 : Int} {w : World} (hx : fits [x0, x1, x2, x3, x4, x5]) :
    Calls Try.prog 12 #[.agg #[.int .u64 x0, .int .u64 x1, .int .u64 x2, .int .u64 x3, .int .u64 x4, .int .u64 x5]] w fun e w' => ∃ v', e = .returned v' ∧ NumIs w' v' (v64 [x0, x1, x2, x3, x4, x5]) ∧ Below w.heap.size w w' :=
  of6_any _ w rfl hx

theorem less_cmp (A B : List Int) (c : Int) (hc : cmpN (v64 A) (v64 B) = c) : lessN A B = tb (decide (c < 0)) := by
  subst hc
  unfold lessN cmpN tb
  by_cases h : v64 A < v64 B
  · simp [h]
  · by_cases h2 : v64 A = v64 B <;> simp [h, h2]

set_option maxRecDepth 100000 in
set_option maxHeartbeats 1000000 in
theorem law_limbLess (x0 x1 x2 x3 x4 x5 y0 y1 y2 y3 y4 y5 : Int) (w : World) (hx : fits [x0, x1, x2, x3, x4, x5]) (hy : fits [y0, y1, y2, y3, y4, y5]) :
    Calls Try.prog 7 #[.agg #[.int .u64 x0, .int .u64 x1, .int .u64 x2, .int .u64 x3, .int .u64 x4, .int .u64 x5], .agg #[.int .u64 y0, .int .u64 y1, .int .u64 y2, .int .u64 y3, .int .u64 y4, .int .u64 y5]] w fun e w' => e = .returned (.bool true) ∧ Below w.heap.size w w' := by
  have B0 := (Blk.new w (us [x0, x1, x2, x3, x4, x5]) 24 w.heap.size rfl).alloc (.cells (us [y0, y1, y2, y3, y4, y5]).toArray 24)
  have B1 := Blk.new (w.alloc (.cells (us [x0, x1, x2, x3, x4, x5]).toArray 24)) (us [y0, y1, y2, y3, y4, y5]) 24 (w.heap.size + 1) (by simp)
  have bel : Below w.heap.size w ((w.alloc (.cells (us [x0, x1, x2, x3, x4, x5]).toArray 24)).alloc (.cells (us [y0, y1, y2, y3, y4, y5]).toArray 24)) := ((Below.refl _ _).alloc (Nat.le_refl _) _).alloc (by simp) _
  obtain ⟨c, hc⟩ : ∃ c, cmpN (v64 [x0, x1, x2, x3, x4, x5]) (v64 [y0, y1, y2, y3, y4, y5]) = c := ⟨_, rfl⟩
  have hl := less_cmp [x0, x1, x2, x3, x4, x5] [y0, y1, y2, y3, y4, y5] c hc
  obtain ⟨q, hq⟩ : ∃ q, decide (c < 0) = q := ⟨_, rfl⟩
  rw [hq] at hl
  have h1 : lessN [0, 0, 0, 0, 0, 0] [1, 0, 0, 0, 0, 0] = 1 := by simp [lessN, v64, pv]
  have fz : fits [0, 0, 0, 0, 0, 0] := fits_zero 6
  go_enter Try.func7, Try.ntmps7
  go_wp2_with fail
  simp only [us, List.map_cons, List.map_nil] at B0 B1 bel
  generalize (w.alloc (Obj.cells #[.int .u64 x0, .int .u64 x1, .int .u64 x2, .int .u64 x3, .int .u64 x4, .int .u64 x5] 24)).alloc (Obj.cells #[.int .u64 y0, .int .u64 y1, .int .u64 y2, .int .u64 y3, .int .u64 y4, .int .u64 y5] 24) = W at *
  have hsz := B1.lt
  obtain ⟨c0, c1, c2, c3, c4, c5⟩ := B0.cells6
  obtain ⟨e0, e1, e2, e3, e4, e5⟩ := B1.cells6
  go_region_held3 (fun w' => w'.cell? ⟨w.heap.size, 0, none⟩ = some (.int .u64 x0) ∧ w'.cell? ⟨w.heap.size, 1, none⟩ = some (.int .u64 x1) ∧ w'.cell? ⟨w.heap.size, 2, none⟩ = some (.int .u64 x2) ∧ w'.cell? ⟨w.heap.size, 3, none⟩ = some (.int .u64 x3) ∧ w'.cell? ⟨w.heap.size, 4, none⟩ = some (.int .u64 x4) ∧ w'.cell? ⟨w.heap.size, 5, none⟩ = some (.int .u64 x5) ∧ w'.cell? ⟨w.heap.size + 1, 0, none⟩ = some (.int .u64 y0) ∧ w'.cell? ⟨w.heap.size + 1, 1, none⟩ = some (.int .u64 y1) ∧ w'.cell? ⟨w.heap.size + 1, 2, none⟩ = some (.int .u64 y2) ∧ w'.cell? ⟨w.heap.size + 1, 3, none⟩ = some (.int .u64 y3) ∧ w'.cell? ⟨w.heap.size + 1, 4, none⟩ = some (.int .u64 y4) ∧ w'.cell? ⟨w.heap.size + 1, 5, none⟩ = some (.int .u64 y5) ∧ w.heap.size + 1 < w'.heap.size ∧ Below w.heap.size w w' ∧ Blk w' w.heap.size (us [x0, x1, x2, x3, x4, x5]) ∧ Blk w' (w.heap.size + 1) (us [y0, y1, y2, y3, y4, y5]))
    (first | (exact ⟨c0, c1, c2, c3, c4, c5, e0, e1, e2, e3, e4, e5, hsz, bel.drew, B0.drew, B1.drew⟩) | (go_split_ands; refine ⟨?_, ?_, ?_, ?_, ?_, ?_, ?_, ?_, ?_, ?_, ?_, ?_, ?_, ?_, ?_, ?_⟩ <;> first | assumption | (rw [hb.cell (by first | assumption | omega | (simp <;> omega))]; assumption) | (have := hb.size; omega) | (refine Below.trans (by assumption) (hb.mono (by omega))) | (refine Blk.later (by assumption) hb)))
    (first
      | (go_at_call 12; have hN1 := hN; refine (of66 (by first | exact hx | exact hy)).mono ?_; rintro e w' ⟨v2, rfl, hN2, hb⟩; replace hN1 := hN1.later hb)
      | (go_at_call 12; refine (of66 (by first | exact hx | exact hy)).mono ?_; rintro e w' ⟨v1, rfl, hN, hb⟩)
      | (go_at_call 17; refine (cmp_any _ _ _ _ _ hN1 hN2).mono ?_; rintro e w' ⟨rfl, hb⟩))
  all_goals go_split_ands
  clear B0 B1 bel hsz c0 c1 c2 c3 c4 c5 e0 e1 e2 e3 e4 e5 hb hN1 hN2 hN
  have B0 : Blk w' w.heap.size (us [x0, x1, x2, x3, x4, x5]) := by assumption
  have B1 : Blk w' (w.heap.size + 1) (us [y0, y1, y2, y3, y4, y5]) := by assumption
  have bel : Below w.heap.size w w' := by assumption
  have z1 := B1.lt
  go_wp2_with fail
  refine (one_any _).mono ?_
  rintro e w1 ⟨rfl, hb⟩
  replace B0 := B0.later hb
  replace B1 := B1.later hb
  replace bel := bel.trans (hb.mono (by omega))
  clear hb z1
  have z1 := B1.lt
  go_wp2_with fail
  refine (less6 fz fits_one).mono ?_
  rintro e w2 ⟨rfl, hb⟩
  rw [h1]
  replace B0 := B0.later hb
  replace B1 := B1.later hb
  replace bel := bel.trans (hb.mono (by omega))
  clear hb z1
  have z1 := B1.lt
  obtain ⟨c0, c1, c2, c3, c4, c5⟩ := B0.cells6
  obtain ⟨d0, d1, d2, d3, d4, d5⟩ := B1.cells6
  go_wp2_with fail
  refine (less6 hx hy).mono ?_
  rintro e w3 ⟨rfl, hb⟩
  rw [hl]
  replace bel := bel.trans (hb.mono (by omega))
  go_wp2_with fail
  refine (truth_any _ _).mono ?_
  rintro e w4 ⟨rfl, rfl⟩
  go_wp2_with fail
  go_ret
  exact ⟨rfl, bel⟩
end Go.Proofs.Ytlgcbnciehndgaa
