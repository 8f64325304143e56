/- The law's example: the base point, and a sum with the point at infinity. -/
import Derived.Test.YtpgidlnpcjbfhabDoorRows
import Derived.Test.YtpgidlnpcjbfhabDoorCAddC
import Derived.Test.YtpgidlnpcjbfhabDoorCTo
import Derived.Test.YtpgidlnpcjbfhabDoorEqPt
import Derived.Deep.WholeRow
import Derived.Deep.RegionHeld3
import Derived.Deep.DeepCutAuto
import Derived.Deep.DeepFit
namespace Go.Proofs.YtpgidlnpcjbfhabDoor
open Go.RowKit

theorem iface_nilC : ∀ w : World, (binOp .eql 31 .nilIface .nilIface).run Tryd.prog w = .ok (.bool true) w := fun _ => by kernel_rfl
theorem iface_eqC (c : Int) : ∀ w : World, (binOp .eql 31 (.iface 54 (.int .i64 c)) (.iface 54 (.int .i64 c))).run Tryd.prog w = .ok (.bool true) w := fun w => by
  have : (binOp .eql 31 (.iface 54 (.int .i64 c)) (.iface 54 (.int .i64 c))).run Tryd.prog w = .ok (.bool (decide (c = c))) w := by kernel_rfl
  rw [this]; simp
theorem told_G : Told GG [4203087948775033527, 6125724927633205612, 6482722621138151992, 7934563412932533144, 10282218360005504372, 12288012358878168375] [8809917716911230559, 747793036959711645, 16850834916486723776, 17938995913990739068, 6745997240412855337, 3897828414440483951] false := ⟨fits6 (by decide), fits6 (by decide), .inr ⟨by show some (GX, GY) = _; rw [show v64 [4203087948775033527, 6125724927633205612, 6482722621138151992, 7934563412932533144, 10282218360005504372, 12288012358878168375] = GX by decide +kernel, show v64 [8809917716911230559, 747793036959711645, 16850834916486723776, 17938995913990739068, 6745997240412855337, 3897828414440483951] = GY by decide +kernel], rfl⟩⟩

set_option maxRecDepth 100000 in
set_option maxHeartbeats 4000000 in
theorem up_any {w : World} (G : GlsC w) :
    Calls Tryd.prog 5 #[] w fun e w' => e = .returned (.bool true) ∧ Below w.heap.size w w' := by
  have bel : Below w.heap.size w w := (Below.refl _ _)
  have bel : Below w.heap.size w w := Below.refl _ _
  go_enter Tryd.func5, Tryd.ntmps5
  go_wp2_with fail
  refine (con_G G).mono ?_
  rintro e w1 ⟨rfl, hb⟩
  replace bel := below_step bel hb
  clear hb
  have Bg := Blk.new w1 [.int .u64 4203087948775033527, .int .u64 6125724927633205612, .int .u64 6482722621138151992, .int .u64 7934563412932533144, .int .u64 10282218360005504372, .int .u64 12288012358878168375, .int .u64 8809917716911230559, .int .u64 747793036959711645, .int .u64 16850834916486723776, .int .u64 17938995913990739068, .int .u64 6745997240412855337, .int .u64 3897828414440483951, .bool false] 27 w1.heap.size rfl
  replace bel := below_alloc (o := .cells [.int .u64 4203087948775033527, .int .u64 6125724927633205612, .int .u64 6482722621138151992, .int .u64 7934563412932533144, .int .u64 10282218360005504372, .int .u64 12288012358878168375, .int .u64 8809917716911230559, .int .u64 747793036959711645, .int .u64 16850834916486723776, .int .u64 17938995913990739068, .int .u64 6745997240412855337, .int .u64 3897828414440483951, .bool false].toArray 27) bel
  have lwg : ∀ z, z < w1.heap.size → z ≠ w1.heap.size := fun z h => Nat.ne_of_lt h
  have ltg := Bg.lt
  have cg0 := Bg.cell 0 _ rfl
  have cg1 := Bg.cell 1 _ rfl
  have cg2 := Bg.cell 2 _ rfl
  have cg3 := Bg.cell 3 _ rfl
  have cg4 := Bg.cell 4 _ rfl
  have cg5 := Bg.cell 5 _ rfl
  have cg6 := Bg.cell 6 _ rfl
  have cg7 := Bg.cell 7 _ rfl
  have cg8 := Bg.cell 8 _ rfl
  have cg9 := Bg.cell 9 _ rfl
  have cg10 := Bg.cell 10 _ rfl
  have cg11 := Bg.cell 11 _ rfl
  have cg12 := Bg.cell 12 _ rfl
  go_wp2_with fail
  obtain ⟨bg, hbg⟩ : ∃ b, b = w1.heap.size := ⟨_, rfl⟩
  clear lwg
  generalize w1.alloc (Obj.cells #[.int .u64 4203087948775033527, .int .u64 6125724927633205612, .int .u64 6482722621138151992, .int .u64 7934563412932533144, .int .u64 10282218360005504372, .int .u64 12288012358878168375, .int .u64 8809917716911230559, .int .u64 747793036959711645, .int .u64 16850834916486723776, .int .u64 17938995913990739068, .int .u64 6745997240412855337, .int .u64 3897828414440483951, .bool false] 27) = Wg at *
  rw [← hbg] at Bg ⊢
  clear hbg
  refine (con_Add (G.below bel) told_zero told_G trivial on_G).mono ?_
  rintro e w2 ⟨s0, s1, s2, s3, s4, s5, t0, t1, t2, t3, t4, t5, kk, rfl, TS, hb⟩
  clear ltg cg0 cg1 cg2 cg3 cg4 cg5 cg6 cg7 cg8 cg9 cg10 cg11 cg12
  replace Bg := Bg.later hb
  replace bel := below_step bel hb
  clear hb
  rw [none_cadd] at TS
  obtain ⟨e1, e2, rfl⟩ := told_one told_G TS rfl rfl rfl rfl; simp only [List.cons.injEq, and_true] at e1 e2; obtain ⟨rfl, rfl, rfl, rfl, rfl, rfl⟩ := e1; obtain ⟨rfl, rfl, rfl, rfl, rfl, rfl⟩ := e2
  clear TS
  have q1 := iface_nilC
  have q2 := eql_pt_same 4203087948775033527 6125724927633205612 6482722621138151992 7934563412932533144 10282218360005504372 12288012358878168375 8809917716911230559 747793036959711645 16850834916486723776 17938995913990739068 6745997240412855337 3897828414440483951 false
  replace Bg := Bg.alloc (.cells [.int .u64 4203087948775033527, .int .u64 6125724927633205612, .int .u64 6482722621138151992, .int .u64 7934563412932533144, .int .u64 10282218360005504372, .int .u64 12288012358878168375, .int .u64 8809917716911230559, .int .u64 747793036959711645, .int .u64 16850834916486723776, .int .u64 17938995913990739068, .int .u64 6745997240412855337, .int .u64 3897828414440483951, .bool false].toArray 27)
  have Bp := Blk.new w2 [.int .u64 4203087948775033527, .int .u64 6125724927633205612, .int .u64 6482722621138151992, .int .u64 7934563412932533144, .int .u64 10282218360005504372, .int .u64 12288012358878168375, .int .u64 8809917716911230559, .int .u64 747793036959711645, .int .u64 16850834916486723776, .int .u64 17938995913990739068, .int .u64 6745997240412855337, .int .u64 3897828414440483951, .bool false] 27 w2.heap.size rfl
  replace bel := below_alloc (o := .cells [.int .u64 4203087948775033527, .int .u64 6125724927633205612, .int .u64 6482722621138151992, .int .u64 7934563412932533144, .int .u64 10282218360005504372, .int .u64 12288012358878168375, .int .u64 8809917716911230559, .int .u64 747793036959711645, .int .u64 16850834916486723776, .int .u64 17938995913990739068, .int .u64 6745997240412855337, .int .u64 3897828414440483951, .bool false].toArray 27) bel
  have lwp : ∀ z, z < w2.heap.size → z ≠ w2.heap.size := fun z h => Nat.ne_of_lt h
  go_upto_region 3 with fail
  obtain ⟨bp, hbp⟩ : ∃ b, b = w2.heap.size := ⟨_, rfl⟩
  clear lwp
  generalize w2.alloc (Obj.cells #[.int .u64 4203087948775033527, .int .u64 6125724927633205612, .int .u64 6482722621138151992, .int .u64 7934563412932533144, .int .u64 10282218360005504372, .int .u64 12288012358878168375, .int .u64 8809917716911230559, .int .u64 747793036959711645, .int .u64 16850834916486723776, .int .u64 17938995913990739068, .int .u64 6745997240412855337, .int .u64 3897828414440483951, .bool false] 27) = Wp at *
  rw [← hbp] at Bp ⊢
  clear hbp
  obtain ⟨S1, hS1, KL1, KA1, KD1, KS1, KQ1, KN1, KB1, KM1, KR1⟩ := held3 (w0 := w) (W := _) [(bg, [.int .u64 4203087948775033527, .int .u64 6125724927633205612, .int .u64 6482722621138151992, .int .u64 7934563412932533144, .int .u64 10282218360005504372, .int .u64 12288012358878168375, .int .u64 8809917716911230559, .int .u64 747793036959711645, .int .u64 16850834916486723776, .int .u64 17938995913990739068, .int .u64 6745997240412855337, .int .u64 3897828414440483951, .bool false]), (bp, [.int .u64 4203087948775033527, .int .u64 6125724927633205612, .int .u64 6482722621138151992, .int .u64 7934563412932533144, .int .u64 10282218360005504372, .int .u64 12288012358878168375, .int .u64 8809917716911230559, .int .u64 747793036959711645, .int .u64 16850834916486723776, .int .u64 17938995913990739068, .int .u64 6745997240412855337, .int .u64 3897828414440483951, .bool false])] (by
    intro b X h
    simp only [List.mem_cons, List.not_mem_nil, or_false, Prod.mk.injEq] at h
    rcases h with ⟨rfl, rfl⟩ | ⟨rfl, rfl⟩
    · exact Bg
    · exact Bp) bel
  have kb1a : ∀ wx, Hd S1 wx → Blk wx (bg) [.int .u64 4203087948775033527, .int .u64 6125724927633205612, .int .u64 6482722621138151992, .int .u64 7934563412932533144, .int .u64 10282218360005504372, .int .u64 12288012358878168375, .int .u64 8809917716911230559, .int .u64 747793036959711645, .int .u64 16850834916486723776, .int .u64 17938995913990739068, .int .u64 6745997240412855337, .int .u64 3897828414440483951, .bool false] := fun wx h => KM1.out wx _ _ h (by simp)
  have c1a0 := rulec kb1a 0 _ rfl
  have c1a1 := rulec kb1a 1 _ rfl
  have c1a2 := rulec kb1a 2 _ rfl
  have c1a3 := rulec kb1a 3 _ rfl
  have c1a4 := rulec kb1a 4 _ rfl
  have c1a5 := rulec kb1a 5 _ rfl
  have c1a6 := rulec kb1a 6 _ rfl
  have c1a7 := rulec kb1a 7 _ rfl
  have c1a8 := rulec kb1a 8 _ rfl
  have c1a9 := rulec kb1a 9 _ rfl
  have c1a10 := rulec kb1a 10 _ rfl
  have c1a11 := rulec kb1a 11 _ rfl
  have c1a12 := rulec kb1a 12 _ rfl
  have c1al := ruleb kb1a
  clear kb1a
  have kb1b : ∀ wx, Hd S1 wx → Blk wx (bp) [.int .u64 4203087948775033527, .int .u64 6125724927633205612, .int .u64 6482722621138151992, .int .u64 7934563412932533144, .int .u64 10282218360005504372, .int .u64 12288012358878168375, .int .u64 8809917716911230559, .int .u64 747793036959711645, .int .u64 16850834916486723776, .int .u64 17938995913990739068, .int .u64 6745997240412855337, .int .u64 3897828414440483951, .bool false] := fun wx h => KM1.out wx _ _ h (by simp)
  have c1b0 := rulec kb1b 0 _ rfl
  have c1b1 := rulec kb1b 1 _ rfl
  have c1b2 := rulec kb1b 2 _ rfl
  have c1b3 := rulec kb1b 3 _ rfl
  have c1b4 := rulec kb1b 4 _ rfl
  have c1b5 := rulec kb1b 5 _ rfl
  have c1b6 := rulec kb1b 6 _ rfl
  have c1b7 := rulec kb1b 7 _ rfl
  have c1b8 := rulec kb1b 8 _ rfl
  have c1b9 := rulec kb1b 9 _ rfl
  have c1b10 := rulec kb1b 10 _ rfl
  have c1b11 := rulec kb1b 11 _ rfl
  have c1b12 := rulec kb1b 12 _ rfl
  have c1bl := ruleb kb1b
  clear kb1b
  have hN1 := bel.size
  clear bel Bg Bp
  go_region_held3 (Hd S1)
    (first
      | with_reducible exact KL1.out _ _ (by assumption) hb
      | with_reducible exact KA1.out _ _ (by assumption)
      | with_reducible exact KS1.out _ _ _ (by omega) (by assumption)
      | with_reducible exact KD1.out _ hS1
      | with_reducible exact KD1.out _ (KA1.out _ _ hS1)
      | with_reducible assumption)
    (first
      | (go_at_call 14; go_fit (r5_G); rintro e w' ⟨v', rfl, PG, hb⟩)
      | (go_at_call 13; go_fit (r5_To PG told_G); rintro e w' ⟨rfl, hb⟩))
  all_goals go_wp2
  all_goals (go_ret; exact ⟨rfl, KB1.out _ (by assumption)⟩)

end Go.Proofs.YtpgidlnpcjbfhabDoor
