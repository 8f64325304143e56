/- The law's own helper: is. -/
import Derived.Test.YtflnfjekapngkaaDoorRows
import Derived.Test.YtflnfjekapngkaaDoorFEql
import Derived.Test.YtflnfjekapngkaaDoorFRef
import Derived.Deep.RegionHeld3
import Derived.Deep.DeepFit
namespace Go.Proofs.YtflnfjekapngkaaDoor
open Go.RowKit

set_option maxRecDepth 100000 in
set_option maxHeartbeats 1000000 in
theorem is6 {x0 x1 x2 x3 x4 x5 : Int} {v : Value} {N : Int} {w : World} (fX : fits [x0, x1, x2, x3, x4, x5]) (hv : NumIs w v N) (hN : v64 [x0, x1, x2, x3, x4, x5] = N) :
    Calls Tryd.prog 9 #[.agg #[.int .u64 x0, .int .u64 x1, .int .u64 x2, .int .u64 x3, .int .u64 x4, .int .u64 x5], v] w fun e w' => e = .returned (.bool true) ∧ Below w.heap.size w w' := by
  have HN : Hid _ := hN
  clear hN
  have B0 := Blk.new w (us [x0, x1, x2, x3, x4, x5]) 24 w.heap.size rfl
  have bel : Below w.heap.size w (w.alloc (.cells (us [x0, x1, x2, x3, x4, x5]).toArray 24)) := (Below.refl _ _).alloc (Nat.le_refl _) _
  have NV := hv.alloc (.cells (us [x0, x1, x2, x3, x4, x5]).toArray 24)
  clear hv
  have q1 := eql_same x0 x1 x2 x3 x4 x5
  go_enter Tryd.func9, Tryd.ntmps9
  go_wp2_with fail
  simp only [us, List.map_cons, List.map_nil] at B0 bel NV
  generalize w.alloc (Obj.cells #[.int .u64 x0, .int .u64 x1, .int .u64 x2, .int .u64 x3, .int .u64 x4, .int .u64 x5] 24) = W at *
  obtain ⟨c0, c1, c2, c3, c4, c5⟩ := B0.cells6
  clear B0
  go_region_held3 (fun wx => (wx.cell? ⟨w.heap.size, 0, none⟩ = some (.int .u64 x0) ∧ wx.cell? ⟨w.heap.size, 1, none⟩ = some (.int .u64 x1) ∧ wx.cell? ⟨w.heap.size, 2, none⟩ = some (.int .u64 x2) ∧ wx.cell? ⟨w.heap.size, 3, none⟩ = some (.int .u64 x3) ∧ wx.cell? ⟨w.heap.size, 4, none⟩ = some (.int .u64 x4) ∧ wx.cell? ⟨w.heap.size, 5, none⟩ = some (.int .u64 x5)) ∧ NumIs wx v N ∧ Below w.heap.size w wx)
    (first
      | (go_split_ands; with_reducible exact ⟨⟨cell_later (by assumption) hb, cell_later (by assumption) hb, cell_later (by assumption) hb, cell_later (by assumption) hb, cell_later (by assumption) hb, cell_later (by assumption) hb⟩, NumIs.later (by assumption) hb, below_step (by assumption) hb⟩)
      | (exact ⟨⟨c0, c1, c2, c3, c4, c5⟩, NV.drew, bel.drew⟩))
    (first
      | (go_at_call 29; refine (to6_is (by go_split_ands; assumption) fX HN.out).mono ?_; rintro e w' ⟨rfl, hb⟩))
  all_goals go_split_ands
  all_goals go_wp2
  all_goals (go_ret; exact ⟨rfl, by assumption⟩)

end Go.Proofs.YtflnfjekapngkaaDoor
