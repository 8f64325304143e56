/- The law's example: the base point, once and not at all. -/
import Derived.Test.YtdikjabghhhhfaaDoorRows
import Derived.Test.YtdikjabghhhhfaaDoorLMul6
import Derived.Test.YtdikjabghhhhfaaDoorCRef
import Derived.Test.YtdikjabghhhhfaaDoorShape
import Derived.Deep.WholeRow
import Derived.Deep.RegionHeld3
import Derived.Deep.DeepCutAuto
import Derived.Deep.DeepFit
namespace Go.Proofs.YtdikjabghhhhfaaDoor
open Go.RowKit

theorem iface_nilL : ∀ w : World, (binOp .eql 29 .nilIface .nilIface).run Tryd.prog w = .ok (.bool true) w := fun _ => by kernel_rfl
theorem iface_nilnL : ∀ w : World, (binOp .neq 29 .nilIface .nilIface).run Tryd.prog w = .ok (.bool false) w := fun _ => by kernel_rfl
theorem iface_eqL (c : Int) : ∀ w : World, (binOp .eql 29 (.iface 33 (.int .i64 c)) (.iface 33 (.int .i64 c))).run Tryd.prog w = .ok (.bool true) w := fun w => by
  have : (binOp .eql 29 (.iface 33 (.int .i64 c)) (.iface 33 (.int .i64 c))).run Tryd.prog w = .ok (.bool (decide (c = c))) w := by kernel_rfl
  rw [this]; simp
theorem told_G : Told GG [4203087948775033527, 6125724927633205612, 6482722621138151992, 7934563412932533144, 10282218360005504372, 12288012358878168375] [8809917716911230559, 747793036959711645, 16850834916486723776, 17938995913990739068, 6745997240412855337, 3897828414440483951] false := ⟨fits6 (by decide), fits6 (by decide), .inr ⟨by show some (GX, GY) = _; rw [show v64 [4203087948775033527, 6125724927633205612, 6482722621138151992, 7934563412932533144, 10282218360005504372, 12288012358878168375] = GX by decide +kernel, show v64 [8809917716911230559, 747793036959711645, 16850834916486723776, 17938995913990739068, 6745997240412855337, 3897828414440483951] = GY by decide +kernel], rfl⟩⟩
theorem one_nat : (v64 [1, 0, 0, 0, 0, 0]).toNat = 1 := by decide +kernel
theorem zero_nat : (v64 [0, 0, 0, 0, 0, 0]).toNat = 0 := by decide +kernel
theorem v40_lt {a0 a1 a2 a3 a4 a5 : Int} (fA : fits [a0, a1, a2, a3, a4, a5]) : v64 [a0, a1, a2, a3, a4, a5] < 4294967296 ^ 40 := Int.lt_trans (v6_bound _ rfl fA).2 (by decide)

set_option maxRecDepth 100000 in
set_option maxHeartbeats 4000000 in
theorem up6 {w : World} (G : GlsC w) :
    Calls Tryd.prog 9 #[] w fun e w' => e = .returned (.bool true) ∧ Below w.heap.size w w' := by
  have bel : Below w.heap.size w w := (Below.refl _ _)
  have bel : Below w.heap.size w w := Below.refl _ _
  go_enter Tryd.func9, Tryd.ntmps9
  go_wp2_with fail
  refine (con_Base G (fits6 (by decide))).mono ?_
  rintro e w1 ⟨s0, s1, s2, s3, s4, s5, t0, t1, t2, t3, t4, t5, kk, rfl, TS, hb⟩
  replace bel := below_step bel hb
  clear hb
  rw [one_nat, cmul_one] at TS
  obtain ⟨e1, e2, rfl⟩ := told_one told_G TS rfl rfl rfl rfl; simp only [List.cons.injEq, and_true] at e1 e2; obtain ⟨rfl, rfl, rfl, rfl, rfl, rfl⟩ := e1; obtain ⟨rfl, rfl, rfl, rfl, rfl, rfl⟩ := e2
  clear TS
  have q2 := eql_pt_same
  go_wp2_with fail
  refine (r5_G).mono ?_
  rintro e w2 ⟨v', rfl, PG, hb⟩
  replace bel := below_step bel hb
  clear hb
  go_wp2_with fail
  refine (r5_To PG told_G).mono ?_
  rintro e w3 ⟨rfl, hb⟩
  replace bel := below_step bel hb
  clear hb PG
  go_wp2_with fail
  refine (con_Base (G.below bel) (fits_zero 6)).mono ?_
  rintro e w4 ⟨s0, s1, s2, s3, s4, s5, t0, t1, t2, t3, t4, t5, kk, rfl, TS, hb⟩
  replace bel := below_step bel hb
  clear hb
  rw [zero_nat] at TS
  replace TS : Told none _ _ _ := TS
  obtain ⟨e1, e2, rfl⟩ := told_one told_zero TS rfl rfl rfl rfl; simp only [List.cons.injEq, and_true] at e1 e2; obtain ⟨rfl, rfl, rfl, rfl, rfl, rfl⟩ := e1; obtain ⟨rfl, rfl, rfl, rfl, rfl, rfl⟩ := e2
  clear TS
  go_wp2_with fail
  go_ret
  exact ⟨rfl, bel⟩

end Go.Proofs.YtdikjabghhhhfaaDoor
