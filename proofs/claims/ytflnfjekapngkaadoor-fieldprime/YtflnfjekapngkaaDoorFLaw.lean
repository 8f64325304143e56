/- The law's own helpers: is, two; '==' on six limbs. -/
import Derived.Test.YtflnfjekapngkaaDoorRows
import Derived.Test.YtflnfjekapngkaaDoorFAdd
import Derived.Test.YtflnfjekapngkaaDoorFRef
import Derived.Test.YtflnfjekapngkaaDoorEq
import Derived.Deep.RegionHeld3
import Derived.Deep.DeepFit
namespace Go.Proofs.YtflnfjekapngkaaDoor
open Go.RowKit

theorem info_u64 : (Tryd.prog.info? 22).map (fun i => (i.zero, i.size, i.bytes)) = some (some (.int .u64 0), 1, 8) := by kernel_rfl

theorem eql_six (x0 x1 x2 x3 x4 x5 y0 y1 y2 y3 y4 y5 : Int) : ∀ w : World, (Op.equalIn 10000 24 (.agg #[.int .u64 x0, .int .u64 x1, .int .u64 x2, .int .u64 x3, .int .u64 x4, .int .u64 x5]) (.agg #[.int .u64 y0, .int .u64 y1, .int .u64 y2, .int .u64 y3, .int .u64 y4, .int .u64 y5])).run Tryd.prog w = .ok (decide ([x0, x1, x2, x3, x4, x5] = [y0, y1, y2, y3, y4, y5])) w := fun w => by
  cases hi : Tryd.prog.info? 22 with
  | none => have := info_u64; rw [hi] at this; simp at this
  | some i => exact run_eql_us (P := Tryd.prog) w (t := 24) (e := 22) (n := 6) Tryd.underlying24 hi (by kernel_rfl) Tryd.underlying22 (by kernel_rfl) [x0, x1, x2, x3, x4, x5] [y0, y1, y2, y3, y4, y5] rfl rfl

theorem eql_same (x0 x1 x2 x3 x4 x5 : Int) : ∀ w : World, (Op.equalIn 10000 24 (.agg #[.int .u64 x0, .int .u64 x1, .int .u64 x2, .int .u64 x3, .int .u64 x4, .int .u64 x5]) (.agg #[.int .u64 x0, .int .u64 x1, .int .u64 x2, .int .u64 x3, .int .u64 x4, .int .u64 x5])).run Tryd.prog w = .ok true w := fun w => by
  rw [eql_six]; simp

theorem eql_not {x0 x1 x2 x3 x4 x5 y0 y1 y2 y3 y4 y5 : Int} (h : [x0, x1, x2, x3, x4, x5] ≠ [y0, y1, y2, y3, y4, y5]) : ∀ w : World, (Op.equalIn 10000 24 (.agg #[.int .u64 x0, .int .u64 x1, .int .u64 x2, .int .u64 x3, .int .u64 x4, .int .u64 x5]) (.agg #[.int .u64 y0, .int .u64 y1, .int .u64 y2, .int .u64 y3, .int .u64 y4, .int .u64 y5])).run Tryd.prog w = .ok false w := fun w => by
  rw [eql_six, decide_eq_false h]

set_option maxRecDepth 100000 in
set_option maxHeartbeats 1000000 in
theorem is6 {x0 x1 x2 x3 x4 x5 : Int} {v : Value} {N : Int} {w : World} (fX : fits [x0, x1, x2, x3, x4, x5]) (hv : NumIs w v N) (hN : v64 [x0, x1, x2, x3, x4, x5] = N) :
    Calls Tryd.prog 9 #[.agg #[.int .u64 x0, .int .u64 x1, .int .u64 x2, .int .u64 x3, .int .u64 x4, .int .u64 x5], v] w fun e w' => e = .returned (.bool true) ∧ Below w.heap.size w w' := by
  have HN : Hid _ := hN
  clear hN
  have B0 := Blk.new w (us [x0, x1, x2, x3, x4, x5]) 24 w.heap.size rfl
  have bel : Below w.heap.size w (w.alloc (.cells (us [x0, x1, x2, x3, x4, x5]).toArray 24)) := (Below.refl _ _).alloc (Nat.le_refl _) _
  have NV := hv.alloc (.cells (us [x0, x1, x2, x3, x4, x5]).toArray 24)
  clear hv
  have q1 := eql_same x0 x1 x2 x3 x4 x5
  go_enter Tryd.func9, Tryd.ntmps9
  go_wp2_with fail
  simp only [us, List.map_cons, List.map_nil] at B0 bel NV
  generalize w.alloc (Obj.cells #[.int .u64 x0, .int .u64 x1, .int .u64 x2, .int .u64 x3, .int .u64 x4, .int .u64 x5] 24) = W at *
  obtain ⟨c0, c1, c2, c3, c4, c5⟩ := B0.cells6
  clear B0
  go_region_held3 (fun wx => (wx.cell? ⟨w.heap.size, 0, none⟩ = some (.int .u64 x0) ∧ wx.cell? ⟨w.heap.size, 1, none⟩ = some (.int .u64 x1) ∧ wx.cell? ⟨w.heap.size, 2, none⟩ = some (.int .u64 x2) ∧ wx.cell? ⟨w.heap.size, 3, none⟩ = some (.int .u64 x3) ∧ wx.cell? ⟨w.heap.size, 4, none⟩ = some (.int .u64 x4) ∧ wx.cell? ⟨w.heap.size, 5, none⟩ = some (.int .u64 x5)) ∧ NumIs wx v N ∧ Below w.heap.size w wx)
    (first
      | (go_split_ands; with_reducible exact ⟨⟨cell_later (by assumption) hb, cell_later (by assumption) hb, cell_later (by assumption) hb, cell_later (by assumption) hb, cell_later (by assumption) hb, cell_later (by assumption) hb⟩, NumIs.later (by assumption) hb, below_step (by assumption) hb⟩)
      | (exact ⟨⟨c0, c1, c2, c3, c4, c5⟩, NV.drew, bel.drew⟩))
    (first
      | (go_at_call 29; refine (to6_is (by go_split_ands; assumption) fX HN.out).mono ?_; rintro e w' ⟨rfl, hb⟩))
  all_goals go_split_ands
  all_goals go_wp2
  all_goals (go_ret; exact ⟨rfl, by assumption⟩)

theorem two_num {z0 z1 z2 z3 z4 z5 : Int} (fZ : fits [z0, z1, z2, z3, z4, z5]) (h : v64 [z0, z1, z2, z3, z4, z5] = (v64 [4294967295, 18446744069414584320, 18446744073709551614, 18446744073709551615, 18446744073709551615, 18446744073709551615] + v64 [2, 0, 0, 0, 0, 0]) % PP) : [z0, z1, z2, z3, z4, z5] = [2, 0, 0, 0, 0, 0] := by
  refine v64_inj _ _ rfl fZ (fits6 (by decide)) ?_
  rw [h]; decide

set_option maxRecDepth 100000 in
set_option maxHeartbeats 1000000 in
theorem two_any {w : World} (G : Gls w) : Calls Tryd.prog 20 #[] w fun e w' => e = .returned (.bool true) ∧ Below w.heap.size w w' := by
  have f2 : fits [2, 0, 0, 0, 0, 0] := fits6 (by decide)
  have q1 := eql_same 2 0 0 0 0 0
  go_enter Tryd.func20, Tryd.ntmps20
  go_wp2_with fail
  refine (fp G).mono ?_
  rintro e w1 ⟨rfl, hb1⟩
  have G1 := G.below hb1
  go_wp2_with fail
  refine (fadd6 G1 fP f2).mono ?_
  rintro e w2 ⟨z0, z1, z2, z3, z4, z5, rfl, fZ, hz, hb2⟩
  have e1 := two_num fZ hz
  simp only [List.cons.injEq, and_true] at e1
  obtain ⟨rfl, rfl, rfl, rfl, rfl, rfl⟩ := e1
  have hbel : Below w.heap.size w w2 := below_step hb1 hb2
  clear hz hb1 hb2 G1
  go_wp2
  go_ret
  exact ⟨rfl, hbel⟩
end Go.Proofs.YtflnfjekapngkaaDoor
