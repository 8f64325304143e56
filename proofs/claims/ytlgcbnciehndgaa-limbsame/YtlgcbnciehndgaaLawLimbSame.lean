/- The law LimbSame. -/
import Derived.Test.YtlgcbnciehndgaaRows
import Derived.Test.YtlgcbnciehndgaaOne
import Derived.Test.YtlgcbnciehndgaaTruth
import Derived.Test.YtlgcbnciehndgaaLSame
import Derived.Test.YtlgcbnciehndgaaEq
import Derived.Test.YtlgcbnciehndgaaArr
import Derived.Deep.RegionHeld3
namespace Go.Proofs.Ytlgcbnciehndgaa
open Go.RowKit

theorem info_u64 : (Try.prog.info? 22).map (fun i => (i.zero, i.size, i.bytes)) = some (some (.int .u64 0), 1, 8) := by kernel_rfl

theorem fits_one : fits [1, 0, 0, 0, 0, 0] := by
  intro j
  match j with
  | 0 => decide
  | 1 => decide
  | 2 => decide
  | 3 => decide
  | 4 => decide
  | 5 => decide
  | _ + 6 => exact ⟨by simp, by simp⟩

theorem same6 {x0 x1 x2 x3 x4 x5 y0 y1 y2 y3 y4 y5 : Int} {w : World} (hx : fits [x0, x1, x2, x3, x4, x5]) (hy : fits [y0, y1, y2, y3, y4, y5]) :
    Calls Try.prog 24 #[.agg #[.int .u64 x0, .int .u64 x1, .int .u64 x2, .int .u64 x3, .int .u64 x4, .int .u64 x5], .agg #[.int .u64 y0, .int .u64 y1, .int .u64 y2, .int .u64 y3, .int .u64 y4, .int .u64 y5]] w fun e w' => e = .returned (.int .u64 (sameN [x0, x1, x2, x3, x4, x5] [y0, y1, y2, y3, y4, y5])) ∧ Below w.heap.size w w' :=
  same_any _ _ w rfl rfl hx hy

set_option maxRecDepth 100000 in
set_option maxHeartbeats 1000000 in
theorem law_limbSame (x0 x1 x2 x3 x4 x5 y0 y1 y2 y3 y4 y5 : Int) (w : World) (hx : fits [x0, x1, x2, x3, x4, x5]) (hy : fits [y0, y1, y2, y3, y4, y5]) :
    Calls Try.prog 8 #[.agg #[.int .u64 x0, .int .u64 x1, .int .u64 x2, .int .u64 x3, .int .u64 x4, .int .u64 x5], .agg #[.int .u64 y0, .int .u64 y1, .int .u64 y2, .int .u64 y3, .int .u64 y4, .int .u64 y5]] w fun e w' => e = .returned (.bool true) ∧ Below w.heap.size w w' := by
  have d1 : sameN [1, 0, 0, 0, 0, 0] [1, 0, 0, 0, 0, 0] = 1 := rfl
  have d2 : sameN [x0, x1, x2, x3, x4, x5] [x0, x1, x2, x3, x4, x5] = 1 := by simp [sameN]
  obtain ⟨q, hq⟩ : ∃ q : Bool, q = decide ([x0, x1, x2, x3, x4, x5] = [y0, y1, y2, y3, y4, y5]) := ⟨_, rfl⟩
  have heq : ∀ w : World, (Op.equalIn 10000 24 (.agg #[.int .u64 x0, .int .u64 x1, .int .u64 x2, .int .u64 x3, .int .u64 x4, .int .u64 x5]) (.agg #[.int .u64 y0, .int .u64 y1, .int .u64 y2, .int .u64 y3, .int .u64 y4, .int .u64 y5])).run Try.prog w = .ok q w := fun w => by
    obtain ⟨i0, hi, _, _, _⟩ := info_parts info_u64
    rw [hq]; exact run_eql_us w Try.underlying24 hi (by kernel_rfl) Try.underlying22 (by kernel_rfl) [x0, x1, x2, x3, x4, x5] [y0, y1, y2, y3, y4, y5] rfl rfl
  have d3 : sameN [x0, x1, x2, x3, x4, x5] [y0, y1, y2, y3, y4, y5] = tb q := by rw [hq]; simp [sameN, tb]
  clear hq
  have B0 := (Blk.new w (us [x0, x1, x2, x3, x4, x5]) 24 w.heap.size rfl).alloc (.cells (us [y0, y1, y2, y3, y4, y5]).toArray 24)
  have B1 := Blk.new (w.alloc (.cells (us [x0, x1, x2, x3, x4, x5]).toArray 24)) (us [y0, y1, y2, y3, y4, y5]) 24 (w.heap.size + 1) (by simp)
  have bel : Below w.heap.size w ((w.alloc (.cells (us [x0, x1, x2, x3, x4, x5]).toArray 24)).alloc (.cells (us [y0, y1, y2, y3, y4, y5]).toArray 24)) := ((Below.refl _ _).alloc (Nat.le_refl _) _).alloc (by simp) _
  go_enter Try.func8, Try.ntmps8
  go_wp2
  simp only [us, List.map_cons, List.map_nil] at B0 B1 bel
  generalize (w.alloc (Obj.cells #[.int .u64 x0, .int .u64 x1, .int .u64 x2, .int .u64 x3, .int .u64 x4, .int .u64 x5] 24)).alloc (Obj.cells #[.int .u64 y0, .int .u64 y1, .int .u64 y2, .int .u64 y3, .int .u64 y4, .int .u64 y5] 24) = W at *
  have c0 := B0.cell 0 _ rfl
  have c1 := B0.cell 1 _ rfl
  have c2 := B0.cell 2 _ rfl
  have c3 := B0.cell 3 _ rfl
  have c4 := B0.cell 4 _ rfl
  have c5 := B0.cell 5 _ rfl
  have e0 := B1.cell 0 _ rfl
  have e1 := B1.cell 1 _ rfl
  have e2 := B1.cell 2 _ rfl
  have e3 := B1.cell 3 _ rfl
  have e4 := B1.cell 4 _ rfl
  have e5 := B1.cell 5 _ rfl
  have hsz := B1.lt
  clear B0 B1
  go_region_held3 (fun w' => w'.cell? ⟨w.heap.size, 0, none⟩ = some (.int .u64 x0) ∧ w'.cell? ⟨w.heap.size, 1, none⟩ = some (.int .u64 x1) ∧ w'.cell? ⟨w.heap.size, 2, none⟩ = some (.int .u64 x2) ∧ w'.cell? ⟨w.heap.size, 3, none⟩ = some (.int .u64 x3) ∧ w'.cell? ⟨w.heap.size, 4, none⟩ = some (.int .u64 x4) ∧ w'.cell? ⟨w.heap.size, 5, none⟩ = some (.int .u64 x5)
      ∧ w'.cell? ⟨w.heap.size + 1, 0, none⟩ = some (.int .u64 y0) ∧ w'.cell? ⟨w.heap.size + 1, 1, none⟩ = some (.int .u64 y1) ∧ w'.cell? ⟨w.heap.size + 1, 2, none⟩ = some (.int .u64 y2) ∧ w'.cell? ⟨w.heap.size + 1, 3, none⟩ = some (.int .u64 y3) ∧ w'.cell? ⟨w.heap.size + 1, 4, none⟩ = some (.int .u64 y4) ∧ w'.cell? ⟨w.heap.size + 1, 5, none⟩ = some (.int .u64 y5) ∧ w.heap.size + 1 < w'.heap.size ∧ Below w.heap.size w w')
    (first | (exact ⟨c0, c1, c2, c3, c4, c5, e0, e1, e2, e3, e4, e5, hsz, bel.drew⟩) | (go_split_ands; refine ⟨?_, ?_, ?_, ?_, ?_, ?_, ?_, ?_, ?_, ?_, ?_, ?_, ?_, ?_⟩ <;> first | assumption | (rw [hb.cell (by first | assumption | omega | (simp <;> omega))]; assumption) | (have := hb.size; omega) | (refine Below.trans (by assumption) (hb.mono (by omega)))))
    (first | (go_at_call 14; refine (truth_any _ _).mono ?_; rintro e w' ⟨rfl, rfl⟩) | (go_at_call 10; refine (one_any _).mono ?_; rintro e w' ⟨rfl, hb⟩) | (go_at_call 24; refine (same6 (by first | exact hx | exact fits_one) (by first | exact hx | exact hy | exact fits_one)).mono ?_; rintro e w' ⟨rfl, hb⟩; try simp only [d1, d2, d3]))
  all_goals go_wp2
  all_goals go_split_ands
  all_goals (go_ret; exact ⟨rfl, by assumption⟩)
end Go.Proofs.Ytlgcbnciehndgaa
