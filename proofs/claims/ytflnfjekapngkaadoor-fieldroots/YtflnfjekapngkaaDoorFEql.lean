/- '==' on six limbs; the law's example. -/
import Derived.Test.YtflnfjekapngkaaDoorRows
import Derived.Test.YtflnfjekapngkaaDoorFAdd
import Derived.Test.YtflnfjekapngkaaDoorEq
namespace Go.Proofs.YtflnfjekapngkaaDoor
open Go.RowKit

theorem info_u64 : (Tryd.prog.info? 22).map (fun i => (i.zero, i.size, i.bytes)) = some (some (.int .u64 0), 1, 8) := by kernel_rfl

theorem eql_six (x0 x1 x2 x3 x4 x5 y0 y1 y2 y3 y4 y5 : Int) : ∀ w : World, (Op.equalIn 10000 24 (.agg #[.int .u64 x0, .int .u64 x1, .int .u64 x2, .int .u64 x3, .int .u64 x4, .int .u64 x5]) (.agg #[.int .u64 y0, .int .u64 y1, .int .u64 y2, .int .u64 y3, .int .u64 y4, .int .u64 y5])).run Tryd.prog w = .ok (decide ([x0, x1, x2, x3, x4, x5] = [y0, y1, y2, y3, y4, y5])) w := fun w => by
  cases hi : Tryd.prog.info? 22 with
  | none => have := info_u64; rw [hi] at this; simp at this
  | some i => exact run_eql_us (P := Tryd.prog) w (t := 24) (e := 22) (n := 6) Tryd.underlying24 hi (by kernel_rfl) Tryd.underlying22 (by kernel_rfl) [x0, x1, x2, x3, x4, x5] [y0, y1, y2, y3, y4, y5] rfl rfl

theorem eql_same (x0 x1 x2 x3 x4 x5 : Int) : ∀ w : World, (Op.equalIn 10000 24 (.agg #[.int .u64 x0, .int .u64 x1, .int .u64 x2, .int .u64 x3, .int .u64 x4, .int .u64 x5]) (.agg #[.int .u64 x0, .int .u64 x1, .int .u64 x2, .int .u64 x3, .int .u64 x4, .int .u64 x5])).run Tryd.prog w = .ok true w := fun w => by
  rw [eql_six]; simp

theorem eql_not {x0 x1 x2 x3 x4 x5 y0 y1 y2 y3 y4 y5 : Int} (h : [x0, x1, x2, x3, x4, x5] ≠ [y0, y1, y2, y3, y4, y5]) : ∀ w : World, (Op.equalIn 10000 24 (.agg #[.int .u64 x0, .int .u64 x1, .int .u64 x2, .int .u64 x3, .int .u64 x4, .int .u64 x5]) (.agg #[.int .u64 y0, .int .u64 y1, .int .u64 y2, .int .u64 y3, .int .u64 y4, .int .u64 y5])).run Tryd.prog w = .ok false w := fun w => by
  rw [eql_six, decide_eq_false h]

theorem two_num {z0 z1 z2 z3 z4 z5 : Int} (fZ : fits [z0, z1, z2, z3, z4, z5]) (h : v64 [z0, z1, z2, z3, z4, z5] = (v64 [4294967295, 18446744069414584320, 18446744073709551614, 18446744073709551615, 18446744073709551615, 18446744073709551615] + v64 [2, 0, 0, 0, 0, 0]) % PP) : [z0, z1, z2, z3, z4, z5] = [2, 0, 0, 0, 0, 0] := by
  refine v64_inj _ _ rfl fZ (fits6 (by decide)) ?_
  rw [h]; decide

set_option maxRecDepth 100000 in
set_option maxHeartbeats 1000000 in
theorem two_any {w : World} (G : Gls w) : Calls Tryd.prog 20 #[] w fun e w' => e = .returned (.bool true) ∧ Below w.heap.size w w' := by
  have f2 : fits [2, 0, 0, 0, 0, 0] := fits6 (by decide)
  have q1 := eql_same 2 0 0 0 0 0
  go_enter Tryd.func20, Tryd.ntmps20
  go_wp2_with fail
  refine (fp G).mono ?_
  rintro e w1 ⟨rfl, hb1⟩
  have G1 := G.below hb1
  go_wp2_with fail
  refine (fadd6 G1 fP f2).mono ?_
  rintro e w2 ⟨z0, z1, z2, z3, z4, z5, rfl, fZ, hz, hb2⟩
  have e1 := two_num fZ hz
  simp only [List.cons.injEq, and_true] at e1
  obtain ⟨rfl, rfl, rfl, rfl, rfl, rfl⟩ := e1
  have hbel : Below w.heap.size w w2 := below_step hb1 hb2
  clear hz hb1 hb2 G1
  go_wp2
  go_ret
  exact ⟨rfl, hbel⟩
end Go.Proofs.YtflnfjekapngkaaDoor
