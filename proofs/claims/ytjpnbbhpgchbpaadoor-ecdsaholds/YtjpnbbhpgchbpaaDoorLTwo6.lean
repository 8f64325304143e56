/- ladder.Two: the sum of two multiples, doubled at once. -/
import Derived.Test.YtjpnbbhpgchbpaaDoorRows
import Derived.Test.YtjpnbbhpgchbpaaDoorLG1
import Derived.Deep.WholeRow
import Derived.Deep.RegionHeld3
import Derived.Deep.DeepCutAuto
import Derived.Deep.DeepFit
namespace Go.Proofs.YtjpnbbhpgchbpaaDoor
open Go.RowKit

set_option linter.unusedSimpArgs false in
set_option maxRecDepth 100000 in
set_option maxHeartbeats 16000000 in
theorem con_Two {a0 a1 a2 a3 a4 a5 b0 b1 b2 b3 b4 b5 x0 x1 x2 x3 x4 x5 y0 y1 y2 y3 y4 y5 : Int} {n : Bool} {P : Pt} {w : World} (G : GlsC w) (fA : fits [a0, a1, a2, a3, a4, a5]) (fB : fits [b0, b1, b2, b3, b4, b5]) (tP : Told P [x0, x1, x2, x3, x4, x5] [y0, y1, y2, y3, y4, y5] n) (hP : OnC P) :
    Calls Tryd.prog 24 #[.agg #[.int .u64 a0, .int .u64 a1, .int .u64 a2, .int .u64 a3, .int .u64 a4, .int .u64 a5], .agg #[.int .u64 b0, .int .u64 b1, .int .u64 b2, .int .u64 b3, .int .u64 b4, .int .u64 b5], .agg #[.int .u64 x0, .int .u64 x1, .int .u64 x2, .int .u64 x3, .int .u64 x4, .int .u64 x5, .int .u64 y0, .int .u64 y1, .int .u64 y2, .int .u64 y3, .int .u64 y4, .int .u64 y5, .bool n]] w fun e w' => ∃ (s0 s1 s2 s3 s4 s5 t0 t1 t2 t3 t4 t5 : Int) (k : Bool), e = .returned (.tuple #[.agg #[.int .u64 s0, .int .u64 s1, .int .u64 s2, .int .u64 s3, .int .u64 s4, .int .u64 s5, .int .u64 t0, .int .u64 t1, .int .u64 t2, .int .u64 t3, .int .u64 t4, .int .u64 t5, .bool k], .nilIface]) ∧ Told (cadd (cmul (v64 [a0, a1, a2, a3, a4, a5]).toNat GG) (cmul (v64 [b0, b1, b2, b3, b4, b5]).toNat P)) [s0, s1, s2, s3, s4, s5] [t0, t1, t2, t3, t4, t5] k ∧ Below w.heap.size w w' := by
  have fX : fits [x0, x1, x2, x3, x4, x5] := tP.fA
  have fY : fits [y0, y1, y2, y3, y4, y5] := tP.fB
  have HO : Hid _ := on_told tP hP
  have HP : Hid _ := hP
  have HT : Hid (Told P [x0, x1, x2, x3, x4, x5] [y0, y1, y2, y3, y4, y5] n) := tP
  obtain ⟨U, hU⟩ : ∃ E, (v64 [a0, a1, a2, a3, a4, a5]).toNat = E := ⟨_, rfl⟩
  obtain ⟨V, hV⟩ : ∃ E, (v64 [b0, b1, b2, b3, b4, b5]).toNat = E := ⟨_, rfl⟩
  have TOPU : Hid (U < 2 ^ (384 - 0)) := by rw [← hU]; exact nat_384 fA
  have TOPV : Hid (V < 2 ^ (384 - 0)) := by rw [← hV]; exact nat_384 fB
  have HU : Hid ((v64 [a0, a1, a2, a3, a4, a5]).toNat = U) := hU
  have HV : Hid ((v64 [b0, b1, b2, b3, b4, b5]).toNat = V) := hV
  clear hP tP hU hV
  have B0 := (((Blk.new w [.int .u64 a0, .int .u64 a1, .int .u64 a2, .int .u64 a3, .int .u64 a4, .int .u64 a5] 24 (w.heap.size) rfl).alloc (.cells [.int .u64 b0, .int .u64 b1, .int .u64 b2, .int .u64 b3, .int .u64 b4, .int .u64 b5].toArray 24)).alloc (.cells [.int .u64 x0, .int .u64 x1, .int .u64 x2, .int .u64 x3, .int .u64 x4, .int .u64 x5, .int .u64 y0, .int .u64 y1, .int .u64 y2, .int .u64 y3, .int .u64 y4, .int .u64 y5, .bool n].toArray 37)).alloc (.cells [.int .u64 0, .int .u64 0, .int .u64 0, .int .u64 0, .int .u64 0, .int .u64 0, .int .u64 0, .int .u64 0, .int .u64 0, .int .u64 0, .int .u64 0, .int .u64 0, .bool false].toArray 37)
  have B1 := ((Blk.new (w.alloc (.cells [.int .u64 a0, .int .u64 a1, .int .u64 a2, .int .u64 a3, .int .u64 a4, .int .u64 a5].toArray 24)) [.int .u64 b0, .int .u64 b1, .int .u64 b2, .int .u64 b3, .int .u64 b4, .int .u64 b5] 24 (w.heap.size + 1) (by simp)).alloc (.cells [.int .u64 x0, .int .u64 x1, .int .u64 x2, .int .u64 x3, .int .u64 x4, .int .u64 x5, .int .u64 y0, .int .u64 y1, .int .u64 y2, .int .u64 y3, .int .u64 y4, .int .u64 y5, .bool n].toArray 37)).alloc (.cells [.int .u64 0, .int .u64 0, .int .u64 0, .int .u64 0, .int .u64 0, .int .u64 0, .int .u64 0, .int .u64 0, .int .u64 0, .int .u64 0, .int .u64 0, .int .u64 0, .bool false].toArray 37)
  have B2 := (Blk.new ((w.alloc (.cells [.int .u64 a0, .int .u64 a1, .int .u64 a2, .int .u64 a3, .int .u64 a4, .int .u64 a5].toArray 24)).alloc (.cells [.int .u64 b0, .int .u64 b1, .int .u64 b2, .int .u64 b3, .int .u64 b4, .int .u64 b5].toArray 24)) [.int .u64 x0, .int .u64 x1, .int .u64 x2, .int .u64 x3, .int .u64 x4, .int .u64 x5, .int .u64 y0, .int .u64 y1, .int .u64 y2, .int .u64 y3, .int .u64 y4, .int .u64 y5, .bool n] 37 (w.heap.size + 1 + 1) (by simp)).alloc (.cells [.int .u64 0, .int .u64 0, .int .u64 0, .int .u64 0, .int .u64 0, .int .u64 0, .int .u64 0, .int .u64 0, .int .u64 0, .int .u64 0, .int .u64 0, .int .u64 0, .bool false].toArray 37)
  have B3 := Blk.new (((w.alloc (.cells [.int .u64 a0, .int .u64 a1, .int .u64 a2, .int .u64 a3, .int .u64 a4, .int .u64 a5].toArray 24)).alloc (.cells [.int .u64 b0, .int .u64 b1, .int .u64 b2, .int .u64 b3, .int .u64 b4, .int .u64 b5].toArray 24)).alloc (.cells [.int .u64 x0, .int .u64 x1, .int .u64 x2, .int .u64 x3, .int .u64 x4, .int .u64 x5, .int .u64 y0, .int .u64 y1, .int .u64 y2, .int .u64 y3, .int .u64 y4, .int .u64 y5, .bool n].toArray 37)) [.int .u64 0, .int .u64 0, .int .u64 0, .int .u64 0, .int .u64 0, .int .u64 0, .int .u64 0, .int .u64 0, .int .u64 0, .int .u64 0, .int .u64 0, .int .u64 0, .bool false] 37 (w.heap.size + 1 + 1 + 1) (by simp)
  have bel : Below w.heap.size w ((((w.alloc (.cells [.int .u64 a0, .int .u64 a1, .int .u64 a2, .int .u64 a3, .int .u64 a4, .int .u64 a5].toArray 24)).alloc (.cells [.int .u64 b0, .int .u64 b1, .int .u64 b2, .int .u64 b3, .int .u64 b4, .int .u64 b5].toArray 24)).alloc (.cells [.int .u64 x0, .int .u64 x1, .int .u64 x2, .int .u64 x3, .int .u64 x4, .int .u64 x5, .int .u64 y0, .int .u64 y1, .int .u64 y2, .int .u64 y3, .int .u64 y4, .int .u64 y5, .bool n].toArray 37)).alloc (.cells [.int .u64 0, .int .u64 0, .int .u64 0, .int .u64 0, .int .u64 0, .int .u64 0, .int .u64 0, .int .u64 0, .int .u64 0, .int .u64 0, .int .u64 0, .int .u64 0, .bool false].toArray 37)) := (((((Below.refl _ _).alloc (Nat.le_refl _) _).alloc (by simp) _).alloc (by simp; omega) _).alloc (by simp; omega) _)
  go_enter Tryd.func24, Tryd.ntmps24
  go_upto_region 1 with fail
  try simp only [us, List.map_cons, List.map_nil] at bel
  generalize ((((w.alloc (Obj.cells #[.int .u64 a0, .int .u64 a1, .int .u64 a2, .int .u64 a3, .int .u64 a4, .int .u64 a5] 24)).alloc (Obj.cells #[.int .u64 b0, .int .u64 b1, .int .u64 b2, .int .u64 b3, .int .u64 b4, .int .u64 b5] 24)).alloc (Obj.cells #[.int .u64 x0, .int .u64 x1, .int .u64 x2, .int .u64 x3, .int .u64 x4, .int .u64 x5, .int .u64 y0, .int .u64 y1, .int .u64 y2, .int .u64 y3, .int .u64 y4, .int .u64 y5, .bool n] 37)).alloc (Obj.cells #[.int .u64 0, .int .u64 0, .int .u64 0, .int .u64 0, .int .u64 0, .int .u64 0, .int .u64 0, .int .u64 0, .int .u64 0, .int .u64 0, .int .u64 0, .int .u64 0, .bool false] 37)) = W at *
  have Bu := B0
  have Bv := B1
  have Bq := B2
  have Br := B3
  clear B0 B1 B2 B3
  have ltq := Bq.lt
  have cq0 := Bq.cell 0 _ rfl
  have cq1 := Bq.cell 1 _ rfl
  have cq2 := Bq.cell 2 _ rfl
  have cq3 := Bq.cell 3 _ rfl
  have cq4 := Bq.cell 4 _ rfl
  have cq5 := Bq.cell 5 _ rfl
  have cq6 := Bq.cell 6 _ rfl
  have cq7 := Bq.cell 7 _ rfl
  have cq8 := Bq.cell 8 _ rfl
  have cq9 := Bq.cell 9 _ rfl
  have cq10 := Bq.cell 10 _ rfl
  have cq11 := Bq.cell 11 _ rfl
  have cq12 := Bq.cell 12 _ rfl
  go_wp2_with fail
  refine (con_On (b := true) (G.below bel) fX fY ⟨fun _ => HO.out, fun _ => rfl⟩).mono ?_
  rintro e w1 ⟨rfl, hb⟩
  clear ltq cq0 cq1 cq2 cq3 cq4 cq5 cq6 cq7 cq8 cq9 cq10 cq11 cq12
  replace Bu := Bu.later hb
  replace Bv := Bv.later hb
  replace Bq := Bq.later hb
  replace Br := Br.later hb
  replace bel := below_step bel hb
  clear hb
  go_wp2_with fail
  refine (con_G (G.below bel)).mono ?_
  rintro e w2 ⟨rfl, hb⟩
  replace Bu := Bu.later hb
  replace Bv := Bv.later hb
  replace Bq := Bq.later hb
  replace Br := Br.later hb
  replace bel := below_step bel hb
  clear hb
  have ltr0 := Br.lt
  replace Bu := Bu.alloc (.cells [.int .u64 4203087948775033527, .int .u64 6125724927633205612, .int .u64 6482722621138151992, .int .u64 7934563412932533144, .int .u64 10282218360005504372, .int .u64 12288012358878168375, .int .u64 8809917716911230559, .int .u64 747793036959711645, .int .u64 16850834916486723776, .int .u64 17938995913990739068, .int .u64 6745997240412855337, .int .u64 3897828414440483951, .bool false].toArray 37)
  replace Bv := Bv.alloc (.cells [.int .u64 4203087948775033527, .int .u64 6125724927633205612, .int .u64 6482722621138151992, .int .u64 7934563412932533144, .int .u64 10282218360005504372, .int .u64 12288012358878168375, .int .u64 8809917716911230559, .int .u64 747793036959711645, .int .u64 16850834916486723776, .int .u64 17938995913990739068, .int .u64 6745997240412855337, .int .u64 3897828414440483951, .bool false].toArray 37)
  replace Bq := Bq.alloc (.cells [.int .u64 4203087948775033527, .int .u64 6125724927633205612, .int .u64 6482722621138151992, .int .u64 7934563412932533144, .int .u64 10282218360005504372, .int .u64 12288012358878168375, .int .u64 8809917716911230559, .int .u64 747793036959711645, .int .u64 16850834916486723776, .int .u64 17938995913990739068, .int .u64 6745997240412855337, .int .u64 3897828414440483951, .bool false].toArray 37)
  replace Br := Br.alloc (.cells [.int .u64 4203087948775033527, .int .u64 6125724927633205612, .int .u64 6482722621138151992, .int .u64 7934563412932533144, .int .u64 10282218360005504372, .int .u64 12288012358878168375, .int .u64 8809917716911230559, .int .u64 747793036959711645, .int .u64 16850834916486723776, .int .u64 17938995913990739068, .int .u64 6745997240412855337, .int .u64 3897828414440483951, .bool false].toArray 37)
  have Bg := Blk.new w2 [.int .u64 4203087948775033527, .int .u64 6125724927633205612, .int .u64 6482722621138151992, .int .u64 7934563412932533144, .int .u64 10282218360005504372, .int .u64 12288012358878168375, .int .u64 8809917716911230559, .int .u64 747793036959711645, .int .u64 16850834916486723776, .int .u64 17938995913990739068, .int .u64 6745997240412855337, .int .u64 3897828414440483951, .bool false] 37 w2.heap.size rfl
  replace bel := below_alloc (o := .cells [.int .u64 4203087948775033527, .int .u64 6125724927633205612, .int .u64 6482722621138151992, .int .u64 7934563412932533144, .int .u64 10282218360005504372, .int .u64 12288012358878168375, .int .u64 8809917716911230559, .int .u64 747793036959711645, .int .u64 16850834916486723776, .int .u64 17938995913990739068, .int .u64 6745997240412855337, .int .u64 3897828414440483951, .bool false].toArray 37) bel
  have lwg : ∀ z, z < w2.heap.size → z ≠ w2.heap.size := fun z h => Nat.ne_of_lt h
  have ltg := Bg.lt
  have cg0 := Bg.cell 0 _ rfl
  have cg1 := Bg.cell 1 _ rfl
  have cg2 := Bg.cell 2 _ rfl
  have cg3 := Bg.cell 3 _ rfl
  have cg4 := Bg.cell 4 _ rfl
  have cg5 := Bg.cell 5 _ rfl
  have cg6 := Bg.cell 6 _ rfl
  have cg7 := Bg.cell 7 _ rfl
  have cg8 := Bg.cell 8 _ rfl
  have cg9 := Bg.cell 9 _ rfl
  have cg10 := Bg.cell 10 _ rfl
  have cg11 := Bg.cell 11 _ rfl
  have cg12 := Bg.cell 12 _ rfl
  have ltq := Bq.lt
  have cq0 := Bq.cell 0 _ rfl
  have cq1 := Bq.cell 1 _ rfl
  have cq2 := Bq.cell 2 _ rfl
  have cq3 := Bq.cell 3 _ rfl
  have cq4 := Bq.cell 4 _ rfl
  have cq5 := Bq.cell 5 _ rfl
  have cq6 := Bq.cell 6 _ rfl
  have cq7 := Bq.cell 7 _ rfl
  have cq8 := Bq.cell 8 _ rfl
  have cq9 := Bq.cell 9 _ rfl
  have cq10 := Bq.cell 10 _ rfl
  have cq11 := Bq.cell 11 _ rfl
  have cq12 := Bq.cell 12 _ rfl
  go_wp2_with fail
  obtain ⟨bg, hbg⟩ : ∃ b, b = w2.heap.size := ⟨_, rfl⟩
  clear lwg
  generalize w2.alloc (Obj.cells #[.int .u64 4203087948775033527, .int .u64 6125724927633205612, .int .u64 6482722621138151992, .int .u64 7934563412932533144, .int .u64 10282218360005504372, .int .u64 12288012358878168375, .int .u64 8809917716911230559, .int .u64 747793036959711645, .int .u64 16850834916486723776, .int .u64 17938995913990739068, .int .u64 6745997240412855337, .int .u64 3897828414440483951, .bool false] 37) = Wg at *
  rw [← hbg] at Bg ltr0 ⊢
  clear hbg
  have hpg : w.heap.size + 1 + 1 + 1 < bg := ltr0
  clear ltr0
  refine (con_add6 (G.below bel) told_GC HT.out on_G HP.out).mono ?_
  rintro e w3 ⟨p0, p1, p2, p3, p4, p5, q0, q1, q2, q3, q4, q5, kp, rfl, TB, hb⟩
  clear ltg cg0 cg1 cg2 cg3 cg4 cg5 cg6 cg7 cg8 cg9 cg10 cg11 cg12 ltq cq0 cq1 cq2 cq3 cq4 cq5 cq6 cq7 cq8 cq9 cq10 cq11 cq12
  replace Bu := Bu.later hb
  replace Bv := Bv.later hb
  replace Bq := Bq.later hb
  replace Br := Br.later hb
  replace Bg := Bg.later hb
  replace bel := below_step bel hb
  clear hb
  have ltr0 := Br.lt
  replace Bu := Bu.alloc (.cells [.int .u64 p0, .int .u64 p1, .int .u64 p2, .int .u64 p3, .int .u64 p4, .int .u64 p5, .int .u64 q0, .int .u64 q1, .int .u64 q2, .int .u64 q3, .int .u64 q4, .int .u64 q5, .bool kp].toArray 37)
  replace Bv := Bv.alloc (.cells [.int .u64 p0, .int .u64 p1, .int .u64 p2, .int .u64 p3, .int .u64 p4, .int .u64 p5, .int .u64 q0, .int .u64 q1, .int .u64 q2, .int .u64 q3, .int .u64 q4, .int .u64 q5, .bool kp].toArray 37)
  replace Bq := Bq.alloc (.cells [.int .u64 p0, .int .u64 p1, .int .u64 p2, .int .u64 p3, .int .u64 p4, .int .u64 p5, .int .u64 q0, .int .u64 q1, .int .u64 q2, .int .u64 q3, .int .u64 q4, .int .u64 q5, .bool kp].toArray 37)
  replace Br := Br.alloc (.cells [.int .u64 p0, .int .u64 p1, .int .u64 p2, .int .u64 p3, .int .u64 p4, .int .u64 p5, .int .u64 q0, .int .u64 q1, .int .u64 q2, .int .u64 q3, .int .u64 q4, .int .u64 q5, .bool kp].toArray 37)
  replace Bg := Bg.alloc (.cells [.int .u64 p0, .int .u64 p1, .int .u64 p2, .int .u64 p3, .int .u64 p4, .int .u64 p5, .int .u64 q0, .int .u64 q1, .int .u64 q2, .int .u64 q3, .int .u64 q4, .int .u64 q5, .bool kp].toArray 37)
  have Bh := Blk.new w3 [.int .u64 p0, .int .u64 p1, .int .u64 p2, .int .u64 p3, .int .u64 p4, .int .u64 p5, .int .u64 q0, .int .u64 q1, .int .u64 q2, .int .u64 q3, .int .u64 q4, .int .u64 q5, .bool kp] 37 w3.heap.size rfl
  replace bel := below_alloc (o := .cells [.int .u64 p0, .int .u64 p1, .int .u64 p2, .int .u64 p3, .int .u64 p4, .int .u64 p5, .int .u64 q0, .int .u64 q1, .int .u64 q2, .int .u64 q3, .int .u64 q4, .int .u64 q5, .bool kp].toArray 37) bel
  have lwh : ∀ z, z < w3.heap.size → z ≠ w3.heap.size := fun z h => Nat.ne_of_lt h
  go_wp2_with fail
  obtain ⟨bh, hbh⟩ : ∃ b, b = w3.heap.size := ⟨_, rfl⟩
  clear lwh
  generalize w3.alloc (Obj.cells #[.int .u64 p0, .int .u64 p1, .int .u64 p2, .int .u64 p3, .int .u64 p4, .int .u64 p5, .int .u64 q0, .int .u64 q1, .int .u64 q2, .int .u64 q3, .int .u64 q4, .int .u64 q5, .bool kp] 37) = Wh at *
  rw [← hbh] at Bh ltr0 ⊢
  clear hbh
  have hph : w.heap.size + 1 + 1 + 1 < bh := ltr0
  clear ltr0
  refine (con_inf).mono ?_
  rintro e w4 ⟨rfl, hb⟩
  replace Bu := Bu.later hb
  replace Bv := Bv.later hb
  replace Bq := Bq.later hb
  replace Br := Br.later hb
  replace Bg := Bg.later hb
  replace Bh := Bh.later hb
  replace bel := below_step bel hb
  clear hb
  have ltg0 := Bg.lt
  have lth0 := Bh.lt
  have ltr0 := Br.lt
  replace Bu := Bu.alloc (.cells [.int .u64 0, .int .u64 0, .int .u64 0, .int .u64 0, .int .u64 0, .int .u64 0, .int .u64 0, .int .u64 0, .int .u64 0, .int .u64 0, .int .u64 0, .int .u64 0, .bool true].toArray 37)
  replace Bv := Bv.alloc (.cells [.int .u64 0, .int .u64 0, .int .u64 0, .int .u64 0, .int .u64 0, .int .u64 0, .int .u64 0, .int .u64 0, .int .u64 0, .int .u64 0, .int .u64 0, .int .u64 0, .bool true].toArray 37)
  replace Bq := Bq.alloc (.cells [.int .u64 0, .int .u64 0, .int .u64 0, .int .u64 0, .int .u64 0, .int .u64 0, .int .u64 0, .int .u64 0, .int .u64 0, .int .u64 0, .int .u64 0, .int .u64 0, .bool true].toArray 37)
  replace Br := Br.alloc (.cells [.int .u64 0, .int .u64 0, .int .u64 0, .int .u64 0, .int .u64 0, .int .u64 0, .int .u64 0, .int .u64 0, .int .u64 0, .int .u64 0, .int .u64 0, .int .u64 0, .bool true].toArray 37)
  replace Bg := Bg.alloc (.cells [.int .u64 0, .int .u64 0, .int .u64 0, .int .u64 0, .int .u64 0, .int .u64 0, .int .u64 0, .int .u64 0, .int .u64 0, .int .u64 0, .int .u64 0, .int .u64 0, .bool true].toArray 37)
  replace Bh := Bh.alloc (.cells [.int .u64 0, .int .u64 0, .int .u64 0, .int .u64 0, .int .u64 0, .int .u64 0, .int .u64 0, .int .u64 0, .int .u64 0, .int .u64 0, .int .u64 0, .int .u64 0, .bool true].toArray 37)
  have Bo := Blk.new w4 [.int .u64 0, .int .u64 0, .int .u64 0, .int .u64 0, .int .u64 0, .int .u64 0, .int .u64 0, .int .u64 0, .int .u64 0, .int .u64 0, .int .u64 0, .int .u64 0, .bool true] 37 w4.heap.size rfl
  replace bel := below_alloc (o := .cells [.int .u64 0, .int .u64 0, .int .u64 0, .int .u64 0, .int .u64 0, .int .u64 0, .int .u64 0, .int .u64 0, .int .u64 0, .int .u64 0, .int .u64 0, .int .u64 0, .bool true].toArray 37) bel
  have lwo : ∀ z, z < w4.heap.size → z ≠ w4.heap.size := fun z h => Nat.ne_of_lt h
  go_wp2_with fail
  obtain ⟨bo, hbo⟩ : ∃ b, b = w4.heap.size := ⟨_, rfl⟩
  clear lwo
  generalize w4.alloc (Obj.cells #[.int .u64 0, .int .u64 0, .int .u64 0, .int .u64 0, .int .u64 0, .int .u64 0, .int .u64 0, .int .u64 0, .int .u64 0, .int .u64 0, .int .u64 0, .int .u64 0, .bool true] 37) = Wo at *
  rw [← hbo] at Bo ltr0 ltg0 lth0 ⊢
  clear hbo
  have hpo : w.heap.size + 1 + 1 + 1 < bo := ltr0
  clear ltr0
  have OB : Hid _ := on_add on_G HP.out
  go_loopw [26] (fun iv wr => ∃ k : Nat, k ≤ 384 ∧ iv = .int .i64 (k : Int) ∧ OutP wr bo (cadd (cmul (U / 2 ^ (384 - k)) GG) (cmul (V / 2 ^ (384 - k)) P)) ∧ Blk wr (w.heap.size) [.int .u64 a0, .int .u64 a1, .int .u64 a2, .int .u64 a3, .int .u64 a4, .int .u64 a5] ∧ Blk wr (w.heap.size + 1) [.int .u64 b0, .int .u64 b1, .int .u64 b2, .int .u64 b3, .int .u64 b4, .int .u64 b5] ∧ Blk wr (w.heap.size + 1 + 1) [.int .u64 x0, .int .u64 x1, .int .u64 x2, .int .u64 x3, .int .u64 x4, .int .u64 x5, .int .u64 y0, .int .u64 y1, .int .u64 y2, .int .u64 y3, .int .u64 y4, .int .u64 y5, .bool n] ∧ Blk wr (w.heap.size + 1 + 1 + 1) [.int .u64 0, .int .u64 0, .int .u64 0, .int .u64 0, .int .u64 0, .int .u64 0, .int .u64 0, .int .u64 0, .int .u64 0, .int .u64 0, .int .u64 0, .int .u64 0, .bool false] ∧ Blk wr (bg) [.int .u64 4203087948775033527, .int .u64 6125724927633205612, .int .u64 6482722621138151992, .int .u64 7934563412932533144, .int .u64 10282218360005504372, .int .u64 12288012358878168375, .int .u64 8809917716911230559, .int .u64 747793036959711645, .int .u64 16850834916486723776, .int .u64 17938995913990739068, .int .u64 6745997240412855337, .int .u64 3897828414440483951, .bool false] ∧ Blk wr (bh) [.int .u64 p0, .int .u64 p1, .int .u64 p2, .int .u64 p3, .int .u64 p4, .int .u64 p5, .int .u64 q0, .int .u64 q1, .int .u64 q2, .int .u64 q3, .int .u64 q4, .int .u64 q5, .bool kp] ∧ Below w.heap.size w wr)
    (fun iv _ => (384 - intOf iv).toNat)
  case atStart => exact ⟨0, by omega, rfl, ⟨0, 0, 0, 0, 0, 0, 0, 0, 0, 0, 0, 0, true, Bo, by rw [times_top TOPU.out, times_top TOPV.out]; exact told_zero⟩, Bu, Bv, Bq, Br, Bg, Bh, bel⟩
  case round =>
    clear Bo Bu Bv Bq Br Bg Bh bel
    obtain ⟨k, hk, rfl, ⟨s0, s1, s2, s3, s4, s5, t0, t1, t2, t3, t4, t5, kb, BO, TO⟩, Bu, Bv, Bq, Br, Bg, Bh, bel⟩ := hrel
    by_cases h0 : k = 384
    · subst h0
      rw [Nat.sub_self, Nat.pow_zero, Nat.div_one, Nat.div_one, ← HU.out, ← HV.out] at TO
      rw [show ((384 : Nat) : Int) = 384 from rfl]
      have ltr := Br.lt
      have lto := BO.lt
      have c0 := BO.cell 0 _ rfl
      have c1 := BO.cell 1 _ rfl
      have c2 := BO.cell 2 _ rfl
      have c3 := BO.cell 3 _ rfl
      have c4 := BO.cell 4 _ rfl
      have c5 := BO.cell 5 _ rfl
      have c6 := BO.cell 6 _ rfl
      have c7 := BO.cell 7 _ rfl
      have c8 := BO.cell 8 _ rfl
      have c9 := BO.cell 9 _ rfl
      have c10 := BO.cell 10 _ rfl
      have c11 := BO.cell 11 _ rfl
      have c12 := BO.cell 12 _ rfl
      have d0 := Br.cell 0 _ rfl; have i0 := Br.frozen 0; have d1 := Br.cell 1 _ rfl; have i1 := Br.frozen 1; have d2 := Br.cell 2 _ rfl; have i2 := Br.frozen 2; have d3 := Br.cell 3 _ rfl; have i3 := Br.frozen 3; have d4 := Br.cell 4 _ rfl; have i4 := Br.frozen 4; have d5 := Br.cell 5 _ rfl; have i5 := Br.frozen 5; have d6 := Br.cell 6 _ rfl; have i6 := Br.frozen 6; have d7 := Br.cell 7 _ rfl; have i7 := Br.frozen 7; have d8 := Br.cell 8 _ rfl; have i8 := Br.frozen 8; have d9 := Br.cell 9 _ rfl; have i9 := Br.frozen 9; have d10 := Br.cell 10 _ rfl; have i10 := Br.frozen 10; have d11 := Br.cell 11 _ rfl; have i11 := Br.frozen 11; have d12 := Br.cell 12 _ rfl; have i12 := Br.frozen 12
      go_wp2_with fail
      exact bodyPost_ret (v := .tuple #[.agg #[.int .u64 s0, .int .u64 s1, .int .u64 s2, .int .u64 s3, .int .u64 s4, .int .u64 s5, .int .u64 t0, .int .u64 t1, .int .u64 t2, .int .u64 t3, .int .u64 t4, .int .u64 t5, .bool kb], .nilIface]) (by simp [results, Tryd.results24, go_sem, d0, d1, d2, d3, d4, d5, d6, d7, d8, d9, d10, d11, d12]) rfl ⟨s0, s1, s2, s3, s4, s5, t0, t1, t2, t3, t4, t5, kb, rfl, TO, below_put13 bel (by omega)⟩
    · obtain ⟨j, hj⟩ : ∃ j, k + j = 383 := ⟨383 - k, by omega⟩
      have ej : 384 - k = j + 1 := by omega
      rw [ej] at TO
      have EJ : Hid (384 - (k + 1) = j) := by show _ = _; omega
      clear ej h0
      have g1 : (k : Int) < 384 := by omega
      have gk : IntKind.i64.wrap ((k : Int) + 1) = (k : Int) + 1 := by rw [IntKind.wrap_i64]; omega
      have gj : IntKind.i64.wrap (383 - (k : Int)) = (j : Int) := by rw [IntKind.wrap_i64]; omega
      have OQ : Hid (OnC (cadd (cmul (U / 2 ^ (j + 1)) GG) (cmul (V / 2 ^ (j + 1)) P))) := on_add (on_cmul on_G (U / 2 ^ (j + 1))) (on_cmul HP.out (V / 2 ^ (j + 1)))
      go_upto_region 9 with fail
      obtain ⟨c, hc⟩ : ∃ c, bitN [a0, a1, a2, a3, a4, a5] (j : Int) = c := ⟨_, rfl⟩
      have HBc : Hid (bitN [a0, a1, a2, a3, a4, a5] (j : Int) = c) := hc
      have HDc : Hid (c = ((U / 2 ^ j % 2 : Nat) : Int)) := by rw [← hc, ← HU.out]; exact bitN_nat _ _ rfl fA (by omega)
      have C01c : Hid (c = 0 ∨ c = 1) := by rw [← hc]; exact bit_01 rfl fA (by omega)
      clear hc
      obtain ⟨d, hc⟩ : ∃ c, bitN [b0, b1, b2, b3, b4, b5] (j : Int) = c := ⟨_, rfl⟩
      have HBd : Hid (bitN [b0, b1, b2, b3, b4, b5] (j : Int) = d) := hc
      have HDd : Hid (d = ((V / 2 ^ j % 2 : Nat) : Int)) := by rw [← hc, ← HV.out]; exact bitN_nat _ _ rfl fB (by omega)
      have C01d : Hid (d = 0 ∨ d = 1) := by rw [← hc]; exact bit_01 rfl fB (by omega)
      clear hc
      obtain ⟨S1, hS1, KL1, KA1, KD1, KS1, KQ1, KN1, KB1, KM1, KR1⟩ := held3 (w0 := w) (W := _) [(w.heap.size, [.int .u64 a0, .int .u64 a1, .int .u64 a2, .int .u64 a3, .int .u64 a4, .int .u64 a5]), (w.heap.size + 1, [.int .u64 b0, .int .u64 b1, .int .u64 b2, .int .u64 b3, .int .u64 b4, .int .u64 b5]), (w.heap.size + 1 + 1, [.int .u64 x0, .int .u64 x1, .int .u64 x2, .int .u64 x3, .int .u64 x4, .int .u64 x5, .int .u64 y0, .int .u64 y1, .int .u64 y2, .int .u64 y3, .int .u64 y4, .int .u64 y5, .bool n]), (w.heap.size + 1 + 1 + 1, [.int .u64 0, .int .u64 0, .int .u64 0, .int .u64 0, .int .u64 0, .int .u64 0, .int .u64 0, .int .u64 0, .int .u64 0, .int .u64 0, .int .u64 0, .int .u64 0, .bool false]), (bg, [.int .u64 4203087948775033527, .int .u64 6125724927633205612, .int .u64 6482722621138151992, .int .u64 7934563412932533144, .int .u64 10282218360005504372, .int .u64 12288012358878168375, .int .u64 8809917716911230559, .int .u64 747793036959711645, .int .u64 16850834916486723776, .int .u64 17938995913990739068, .int .u64 6745997240412855337, .int .u64 3897828414440483951, .bool false]), (bh, [.int .u64 p0, .int .u64 p1, .int .u64 p2, .int .u64 p3, .int .u64 p4, .int .u64 p5, .int .u64 q0, .int .u64 q1, .int .u64 q2, .int .u64 q3, .int .u64 q4, .int .u64 q5, .bool kp]), (bo, [.int .u64 s0, .int .u64 s1, .int .u64 s2, .int .u64 s3, .int .u64 s4, .int .u64 s5, .int .u64 t0, .int .u64 t1, .int .u64 t2, .int .u64 t3, .int .u64 t4, .int .u64 t5, .bool kb])] (by
        intro b X h
        simp only [List.mem_cons, List.not_mem_nil, or_false, Prod.mk.injEq] at h
        rcases h with ⟨rfl, rfl⟩ | ⟨rfl, rfl⟩ | ⟨rfl, rfl⟩ | ⟨rfl, rfl⟩ | ⟨rfl, rfl⟩ | ⟨rfl, rfl⟩ | ⟨rfl, rfl⟩
        · exact Bu
        · exact Bv
        · exact Bq
        · exact Br
        · exact Bg
        · exact Bh
        · exact BO) bel
      have kb1a : ∀ wx, Hd S1 wx → Blk wx (w.heap.size) [.int .u64 a0, .int .u64 a1, .int .u64 a2, .int .u64 a3, .int .u64 a4, .int .u64 a5] := fun wx h => KM1.out wx _ _ h (by simp)
      have c1a0 := rulec kb1a 0 _ rfl
      have c1a1 := rulec kb1a 1 _ rfl
      have c1a2 := rulec kb1a 2 _ rfl
      have c1a3 := rulec kb1a 3 _ rfl
      have c1a4 := rulec kb1a 4 _ rfl
      have c1a5 := rulec kb1a 5 _ rfl
      have c1al := ruleb kb1a
      clear kb1a
      have kb1b : ∀ wx, Hd S1 wx → Blk wx (w.heap.size + 1) [.int .u64 b0, .int .u64 b1, .int .u64 b2, .int .u64 b3, .int .u64 b4, .int .u64 b5] := fun wx h => KM1.out wx _ _ h (by simp)
      have c1b0 := rulec kb1b 0 _ rfl
      have c1b1 := rulec kb1b 1 _ rfl
      have c1b2 := rulec kb1b 2 _ rfl
      have c1b3 := rulec kb1b 3 _ rfl
      have c1b4 := rulec kb1b 4 _ rfl
      have c1b5 := rulec kb1b 5 _ rfl
      have c1bl := ruleb kb1b
      clear kb1b
      have hN1 := bel.size
      clear bel BO Bu Bv Bq Br Bg Bh
      refine wp_region_noPanic ?_
      refine wp_region_held_drew (S := Hd S1) (by kernel_rfl) (KD1.out _ hS1) (fun hHeld => ?_)
      clear hS1
      generalize World.drew _ = wd at *
      refine wpAnyH_take (i := 0) (v := ?_) rfl (by kernel_rfl) (by kernel_rfl) (by kernel_rfl) (fun _ _ _ h => h) (Or.inl ⟨by rfl, ?_⟩) (by assumption) ?_
      rotate_left
      · intro w hSw
        go_simp
        with_reducible rfl
      try simp only [Act.put, List.setIfInBounds_toArray, List.set_cons_zero, List.set_cons_succ]
      refine wpAnyH_take (i := 1) (v := ?_) rfl (by kernel_rfl) (by kernel_rfl) (by kernel_rfl) (fun _ _ _ h => h) (Or.inl ⟨by rfl, ?_⟩) (by assumption) ?_
      rotate_left
      · intro w hSw
        go_simp
        with_reducible rfl
      try simp only [Act.put, List.setIfInBounds_toArray, List.set_cons_zero, List.set_cons_succ]
      refine wpAnyH_take (i := 2) (v := ?_) rfl (by kernel_rfl) (by kernel_rfl) (by kernel_rfl) (fun _ _ _ h => h) (Or.inl ⟨by rfl, ?_⟩) (by assumption) ?_
      rotate_left
      · intro w hSw
        go_simp
        with_reducible rfl
      try simp only [Act.put, List.setIfInBounds_toArray, List.set_cons_zero, List.set_cons_succ]
      refine wpAnyH_take (i := 4) (v := ?_) rfl (by kernel_rfl) (by kernel_rfl) (by kernel_rfl) (fun _ _ _ h => h) (Or.inl ⟨by rfl, ?_⟩) (by assumption) ?_
      rotate_left
      · intro w hSw
        go_simp
        with_reducible rfl
      try simp only [Act.put, List.setIfInBounds_toArray, List.set_cons_zero, List.set_cons_succ]
      refine wpAnyH_take (i := 5) (v := ?_) rfl (by kernel_rfl) (by kernel_rfl) (by kernel_rfl) (fun _ _ _ h => h) (Or.inl ⟨by rfl, ?_⟩) (by assumption) ?_
      rotate_left
      · intro w hSw
        go_simp
        with_reducible rfl
      try simp only [Act.put, List.setIfInBounds_toArray, List.set_cons_zero, List.set_cons_succ]
      refine wpAnyH_take (i := 6) (v := ?_) rfl (by kernel_rfl) (by kernel_rfl) (by kernel_rfl) (fun _ _ _ h => h) (Or.inl ⟨by rfl, ?_⟩) (by assumption) ?_
      rotate_left
      · intro w hSw
        go_simp
        with_reducible rfl
      try simp only [Act.put, List.setIfInBounds_toArray, List.set_cons_zero, List.set_cons_succ]
      clear c1a0 c1a1 c1a2 c1a3 c1a4 c1a5 c1al c1b0 c1b1 c1b2 c1b3 c1b4 c1b5 c1bl
      refine wpAnyH_ready (rs := [3]) (by kernel_rfl) (by simp) ?_
      refine AllReadyH.cons rfl (fun K hK => ?_) ?_
      · go_simp
        go_fit (bit_num fA HBc.out)
        rintro e w4 ⟨rfl, hb⟩
        refine hK.out _ _ ?_ (fun hHeld2 => ?_)
        · exact KL1.out _ _ hHeld hb
        · clear hK K hHeld
          have hHeld := hHeld2
          clear hHeld2
          try simp only [Act.put, List.setIfInBounds_toArray, List.set_cons_zero, List.set_cons_succ]
          clear hb
          refine wpAnyH_ready (rs := [7]) (by kernel_rfl) (by simp) ?_
          refine AllReadyH.cons rfl (fun K hK => ?_) ?_
          · go_simp
            go_fit (bit_num fB HBd.out)
            rintro e w5 ⟨rfl, hb⟩
            refine hK.out _ _ ?_ (fun hHeld2 => ?_)
            · exact KL1.out _ _ hHeld hb
            · clear hK K hHeld
              have hHeld := hHeld2
              clear hHeld2
              try simp only [Act.put, List.setIfInBounds_toArray, List.set_cons_zero, List.set_cons_succ]
              clear hb
              refine wpAnyH_ready (rs := [8]) (by kernel_rfl) (by simp) ?_
              refine AllReadyH.cons rfl (fun K hK => ?_) ?_
              · go_simp
                refine hK.out _ _ ?_ (fun hHeld2 => ?_)
                · exact hHeld
                · clear hK K hHeld
                  have hHeld := hHeld2
                  clear hHeld2
                  try simp only [Act.put, List.setIfInBounds_toArray, List.set_cons_zero, List.set_cons_succ]
                  refine wpAnyH_ready (rs := [9]) (by kernel_rfl) (by simp) ?_
                  refine AllReadyH.cons rfl (fun K hK => ?_) ?_
                  · go_simp
                    refine hK.out _ _ ?_ (fun hHeld2 => ?_)
                    · exact hHeld
                    · clear hK K hHeld
                      have hHeld := hHeld2
                      clear hHeld2
                      try simp only [Act.put, List.setIfInBounds_toArray, List.set_cons_zero, List.set_cons_succ]
                      refine wpAnyH_done (by kernel_rfl) ?_ _
                      refine NoPanic.normal ?_
                      have Bu := KM1.out _ (w.heap.size) _ hHeld (List.Mem.head _)
                      have Bv := KM1.out _ (w.heap.size + 1) _ hHeld (List.Mem.tail _ (List.Mem.head _))
                      have Bq := KM1.out _ (w.heap.size + 1 + 1) _ hHeld (List.Mem.tail _ (List.Mem.tail _ (List.Mem.head _)))
                      have Br := KM1.out _ (w.heap.size + 1 + 1 + 1) _ hHeld (List.Mem.tail _ (List.Mem.tail _ (List.Mem.tail _ (List.Mem.head _))))
                      have Bg := KM1.out _ (bg) _ hHeld (List.Mem.tail _ (List.Mem.tail _ (List.Mem.tail _ (List.Mem.tail _ (List.Mem.head _)))))
                      have Bh := KM1.out _ (bh) _ hHeld (List.Mem.tail _ (List.Mem.tail _ (List.Mem.tail _ (List.Mem.tail _ (List.Mem.tail _ (List.Mem.head _))))))
                      have BO := KM1.out _ (bo) _ hHeld (List.Mem.tail _ (List.Mem.tail _ (List.Mem.tail _ (List.Mem.tail _ (List.Mem.tail _ (List.Mem.tail _ (List.Mem.head _)))))))
                      have bel := KB1.out _ hHeld
                      clear hHeld hN1 KL1 KA1 KD1 KS1 KQ1 KN1 KB1 KM1 KR1
                      go_upto_region 10 with fail
                      have lto := BO.lt
                      obtain ⟨S2, hS2, KL2, KA2, KD2, KS2, KQ2, KN2, KB2, KM2, KR2⟩ := held3 (w0 := w) (W := w5) [(w.heap.size, [.int .u64 a0, .int .u64 a1, .int .u64 a2, .int .u64 a3, .int .u64 a4, .int .u64 a5]), (w.heap.size + 1, [.int .u64 b0, .int .u64 b1, .int .u64 b2, .int .u64 b3, .int .u64 b4, .int .u64 b5]), (w.heap.size + 1 + 1, [.int .u64 x0, .int .u64 x1, .int .u64 x2, .int .u64 x3, .int .u64 x4, .int .u64 x5, .int .u64 y0, .int .u64 y1, .int .u64 y2, .int .u64 y3, .int .u64 y4, .int .u64 y5, .bool n]), (w.heap.size + 1 + 1 + 1, [.int .u64 0, .int .u64 0, .int .u64 0, .int .u64 0, .int .u64 0, .int .u64 0, .int .u64 0, .int .u64 0, .int .u64 0, .int .u64 0, .int .u64 0, .int .u64 0, .bool false]), (bg, [.int .u64 4203087948775033527, .int .u64 6125724927633205612, .int .u64 6482722621138151992, .int .u64 7934563412932533144, .int .u64 10282218360005504372, .int .u64 12288012358878168375, .int .u64 8809917716911230559, .int .u64 747793036959711645, .int .u64 16850834916486723776, .int .u64 17938995913990739068, .int .u64 6745997240412855337, .int .u64 3897828414440483951, .bool false]), (bh, [.int .u64 p0, .int .u64 p1, .int .u64 p2, .int .u64 p3, .int .u64 p4, .int .u64 p5, .int .u64 q0, .int .u64 q1, .int .u64 q2, .int .u64 q3, .int .u64 q4, .int .u64 q5, .bool kp]), (bo, [.int .u64 s0, .int .u64 s1, .int .u64 s2, .int .u64 s3, .int .u64 s4, .int .u64 s5, .int .u64 t0, .int .u64 t1, .int .u64 t2, .int .u64 t3, .int .u64 t4, .int .u64 t5, .bool kb])] (by
                        intro b X h
                        simp only [List.mem_cons, List.not_mem_nil, or_false, Prod.mk.injEq] at h
                        rcases h with ⟨rfl, rfl⟩ | ⟨rfl, rfl⟩ | ⟨rfl, rfl⟩ | ⟨rfl, rfl⟩ | ⟨rfl, rfl⟩ | ⟨rfl, rfl⟩ | ⟨rfl, rfl⟩
                        · exact Bu
                        · exact Bv
                        · exact Bq
                        · exact Br
                        · exact Bg
                        · exact Bh
                        · exact BO) bel
                      have kb2c : ∀ wx, Hd S2 wx → Blk wx (w.heap.size + 1 + 1) [.int .u64 x0, .int .u64 x1, .int .u64 x2, .int .u64 x3, .int .u64 x4, .int .u64 x5, .int .u64 y0, .int .u64 y1, .int .u64 y2, .int .u64 y3, .int .u64 y4, .int .u64 y5, .bool n] := fun wx h => KM2.out wx _ _ h (by simp)
                      have c2c0 := rulec kb2c 0 _ rfl
                      have c2c1 := rulec kb2c 1 _ rfl
                      have c2c2 := rulec kb2c 2 _ rfl
                      have c2c3 := rulec kb2c 3 _ rfl
                      have c2c4 := rulec kb2c 4 _ rfl
                      have c2c5 := rulec kb2c 5 _ rfl
                      have c2c6 := rulec kb2c 6 _ rfl
                      have c2c7 := rulec kb2c 7 _ rfl
                      have c2c8 := rulec kb2c 8 _ rfl
                      have c2c9 := rulec kb2c 9 _ rfl
                      have c2c10 := rulec kb2c 10 _ rfl
                      have c2c11 := rulec kb2c 11 _ rfl
                      have c2c12 := rulec kb2c 12 _ rfl
                      have c2cl := ruleb kb2c
                      clear kb2c
                      have kb2e : ∀ wx, Hd S2 wx → Blk wx (bg) [.int .u64 4203087948775033527, .int .u64 6125724927633205612, .int .u64 6482722621138151992, .int .u64 7934563412932533144, .int .u64 10282218360005504372, .int .u64 12288012358878168375, .int .u64 8809917716911230559, .int .u64 747793036959711645, .int .u64 16850834916486723776, .int .u64 17938995913990739068, .int .u64 6745997240412855337, .int .u64 3897828414440483951, .bool false] := fun wx h => KM2.out wx _ _ h (by simp)
                      have c2e0 := rulec kb2e 0 _ rfl
                      have c2e1 := rulec kb2e 1 _ rfl
                      have c2e2 := rulec kb2e 2 _ rfl
                      have c2e3 := rulec kb2e 3 _ rfl
                      have c2e4 := rulec kb2e 4 _ rfl
                      have c2e5 := rulec kb2e 5 _ rfl
                      have c2e6 := rulec kb2e 6 _ rfl
                      have c2e7 := rulec kb2e 7 _ rfl
                      have c2e8 := rulec kb2e 8 _ rfl
                      have c2e9 := rulec kb2e 9 _ rfl
                      have c2e10 := rulec kb2e 10 _ rfl
                      have c2e11 := rulec kb2e 11 _ rfl
                      have c2e12 := rulec kb2e 12 _ rfl
                      have c2el := ruleb kb2e
                      clear kb2e
                      have kb2f : ∀ wx, Hd S2 wx → Blk wx (bh) [.int .u64 p0, .int .u64 p1, .int .u64 p2, .int .u64 p3, .int .u64 p4, .int .u64 p5, .int .u64 q0, .int .u64 q1, .int .u64 q2, .int .u64 q3, .int .u64 q4, .int .u64 q5, .bool kp] := fun wx h => KM2.out wx _ _ h (by simp)
                      have c2f0 := rulec kb2f 0 _ rfl
                      have c2f1 := rulec kb2f 1 _ rfl
                      have c2f2 := rulec kb2f 2 _ rfl
                      have c2f3 := rulec kb2f 3 _ rfl
                      have c2f4 := rulec kb2f 4 _ rfl
                      have c2f5 := rulec kb2f 5 _ rfl
                      have c2f6 := rulec kb2f 6 _ rfl
                      have c2f7 := rulec kb2f 7 _ rfl
                      have c2f8 := rulec kb2f 8 _ rfl
                      have c2f9 := rulec kb2f 9 _ rfl
                      have c2f10 := rulec kb2f 10 _ rfl
                      have c2f11 := rulec kb2f 11 _ rfl
                      have c2f12 := rulec kb2f 12 _ rfl
                      have c2fl := ruleb kb2f
                      clear kb2f
                      have hN2 := bel.size
                      clear bel BO Bu Bv Bq Br Bg Bh
                      go_cut [14, 15] from 27 to 53 (fun pp pq wx => ∃ (bb1 bb2 : Nat) (c0 c1 c2 c3 c4 c5 d0 d1 d2 d3 d4 d5 : Int) (kc : Bool) (g0 g1 g2 g3 g4 g5 h0 h1 h2 h3 h4 h5 : Int) (kg : Bool), pp = .pointer (some ⟨bb1, 0, none⟩) ∧ pq = .pointer (some ⟨bb2, 0, none⟩) ∧ bo < bb1 ∧ bo < bb2 ∧ Told (pkP c none GG) [c0, c1, c2, c3, c4, c5] [d0, d1, d2, d3, d4, d5] kc ∧ Told (pkP c P (cadd GG P)) [g0, g1, g2, g3, g4, g5] [h0, h1, h2, h3, h4, h5] kg ∧ Blk wx bb1 [.int .u64 c0, .int .u64 c1, .int .u64 c2, .int .u64 c3, .int .u64 c4, .int .u64 c5, .int .u64 d0, .int .u64 d1, .int .u64 d2, .int .u64 d3, .int .u64 d4, .int .u64 d5, .bool kc] ∧ Blk wx bb2 [.int .u64 g0, .int .u64 g1, .int .u64 g2, .int .u64 g3, .int .u64 g4, .int .u64 g5, .int .u64 h0, .int .u64 h1, .int .u64 h2, .int .u64 h3, .int .u64 h4, .int .u64 h5, .bool kg] ∧ Hd S2 wx)
                      case first =>
                        refine wp_region_noPanic ?_
                        refine wp_region_held_drew (S := Hd S2) (by kernel_rfl) (KD2.out _ hS2) (fun hHeld => ?_)
                        clear hS2
                        generalize World.drew _ = wd at *
                        refine wpAnyH_take (i := 0) (v := ?_) rfl (by kernel_rfl) (by kernel_rfl) (by kernel_rfl) (fun _ _ _ h => h) (Or.inl ⟨by rfl, ?_⟩) (by assumption) ?_
                        rotate_left
                        · intro w hSw
                          go_simp
                          with_reducible rfl
                        try simp only [Act.put, List.setIfInBounds_toArray, List.set_cons_zero, List.set_cons_succ]
                        refine wpAnyH_take (i := 2) (v := ?_) rfl (by kernel_rfl) (by kernel_rfl) (by kernel_rfl) (fun _ _ _ h => h) (Or.inl ⟨by rfl, ?_⟩) (by assumption) ?_
                        rotate_left
                        · intro w hSw
                          go_simp
                          with_reducible rfl
                        try simp only [Act.put, List.setIfInBounds_toArray, List.set_cons_zero, List.set_cons_succ]
                        refine wpAnyH_take (i := 4) (v := ?_) rfl (by kernel_rfl) (by kernel_rfl) (by kernel_rfl) (fun _ _ _ h => h) (Or.inl ⟨by rfl, ?_⟩) (by assumption) ?_
                        rotate_left
                        · intro w hSw
                          go_simp
                          with_reducible rfl
                        try simp only [Act.put, List.setIfInBounds_toArray, List.set_cons_zero, List.set_cons_succ]
                        refine wpAnyH_take (i := 5) (v := ?_) rfl (by kernel_rfl) (by kernel_rfl) (by kernel_rfl) (fun _ _ _ h => h) (Or.inl ⟨by rfl, ?_⟩) (by assumption) ?_
                        rotate_left
                        · intro w hSw
                          go_simp
                          with_reducible rfl
                        try simp only [Act.put, List.setIfInBounds_toArray, List.set_cons_zero, List.set_cons_succ]
                        refine wpAnyH_take (i := 6) (v := ?_) rfl (by kernel_rfl) (by kernel_rfl) (by kernel_rfl) (fun _ _ _ h => h) (Or.inl ⟨by rfl, ?_⟩) (by assumption) ?_
                        rotate_left
                        · intro w hSw
                          go_simp
                          with_reducible rfl
                        try simp only [Act.put, List.setIfInBounds_toArray, List.set_cons_zero, List.set_cons_succ]
                        clear c2c0 c2c1 c2c2 c2c3 c2c4 c2c5 c2c6 c2c7 c2c8 c2c9 c2c10 c2c11 c2c12 c2cl c2e0 c2e1 c2e2 c2e3 c2e4 c2e5 c2e6 c2e7 c2e8 c2e9 c2e10 c2e11 c2e12 c2el c2f0 c2f1 c2f2 c2f3 c2f4 c2f5 c2f6 c2f7 c2f8 c2f9 c2f10 c2f11 c2f12 c2fl
                        apply with_key (T := ∀ (wz : World) (bn : Nat) (bm : Nat) (c0 c1 c2 c3 c4 c5 d0 d1 d2 d3 d4 d5 : Int) (kc : Bool) (g0 g1 g2 g3 g4 g5 h0 h1 h2 h3 h4 h5 : Int) (kg : Bool), Hd S2 wz → Blk wz bn [.int .u64 0, .int .u64 0, .int .u64 0, .int .u64 0, .int .u64 0, .int .u64 0, .int .u64 0, .int .u64 0, .int .u64 0, .int .u64 0, .int .u64 0, .int .u64 0, .bool false] → w5.heap.size ≤ bn → Blk wz bm [.int .u64 0, .int .u64 0, .int .u64 0, .int .u64 0, .int .u64 0, .int .u64 0, .int .u64 0, .int .u64 0, .int .u64 0, .int .u64 0, .int .u64 0, .int .u64 0, .bool false] → w5.heap.size ≤ bm → bn ≠ bm → Told (pkP c none GG) [c0, c1, c2, c3, c4, c5] [d0, d1, d2, d3, d4, d5] kc → Told (pkP c P (cadd GG P)) [g0, g1, g2, g3, g4, g5] [h0, h1, h2, h3, h4, h5] kg → wpAnyH _ _ _ _ _ _ _ _ wz)
                        case main =>
                          intro k311
                          apply with_key (T := ∀ (wz : World) (bm : Nat) (c0 c1 c2 c3 c4 c5 d0 d1 d2 d3 d4 d5 : Int) (kc : Bool) (g0 g1 g2 g3 g4 g5 h0 h1 h2 h3 h4 h5 : Int) (kg : Bool), Hd S2 wz → Blk wz bm [.int .u64 0, .int .u64 0, .int .u64 0, .int .u64 0, .int .u64 0, .int .u64 0, .int .u64 0, .int .u64 0, .int .u64 0, .int .u64 0, .int .u64 0, .int .u64 0, .bool false] → w5.heap.size ≤ bm → Told (pkP c none GG) [c0, c1, c2, c3, c4, c5] [d0, d1, d2, d3, d4, d5] kc → Told (pkP c P (cadd GG P)) [g0, g1, g2, g3, g4, g5] [h0, h1, h2, h3, h4, h5] kg → wpAnyH _ _ _ _ _ _ _ _ wz)
                          case main =>
                            intro k301
                            apply with_key (T := ∀ (wz : World) (bn : Nat) (c0 c1 c2 c3 c4 c5 d0 d1 d2 d3 d4 d5 : Int) (kc : Bool) (g0 g1 g2 g3 g4 g5 h0 h1 h2 h3 h4 h5 : Int) (kg : Bool), Hd S2 wz → Blk wz bn [.int .u64 0, .int .u64 0, .int .u64 0, .int .u64 0, .int .u64 0, .int .u64 0, .int .u64 0, .int .u64 0, .int .u64 0, .int .u64 0, .int .u64 0, .int .u64 0, .bool false] → w5.heap.size ≤ bn → Told (pkP c none GG) [c0, c1, c2, c3, c4, c5] [d0, d1, d2, d3, d4, d5] kc → Told (pkP c P (cadd GG P)) [g0, g1, g2, g3, g4, g5] [h0, h1, h2, h3, h4, h5] kg → wpAnyH _ _ _ _ _ _ _ _ wz)
                            case main =>
                              intro k310
                              apply with_key (T := ∀ (wz : World) (bn : Nat) (bm : Nat) (c0 c1 c2 c3 c4 c5 d0 d1 d2 d3 d4 d5 : Int) (kc : Bool), Hd S2 wz → Blk wz bn [.int .u64 0, .int .u64 0, .int .u64 0, .int .u64 0, .int .u64 0, .int .u64 0, .int .u64 0, .int .u64 0, .int .u64 0, .int .u64 0, .int .u64 0, .int .u64 0, .bool false] → w5.heap.size ≤ bn → Blk wz bm [.int .u64 0, .int .u64 0, .int .u64 0, .int .u64 0, .int .u64 0, .int .u64 0, .int .u64 0, .int .u64 0, .int .u64 0, .int .u64 0, .int .u64 0, .int .u64 0, .bool false] → w5.heap.size ≤ bm → bn ≠ bm → Told (pkP c none GG) [c0, c1, c2, c3, c4, c5] [d0, d1, d2, d3, d4, d5] kc → wpAnyH _ _ _ _ _ _ _ _ wz)
                              case main =>
                                intro k211
                                apply with_key (T := ∀ (wz : World) (bm : Nat) (c0 c1 c2 c3 c4 c5 d0 d1 d2 d3 d4 d5 : Int) (kc : Bool), Hd S2 wz → Blk wz bm [.int .u64 0, .int .u64 0, .int .u64 0, .int .u64 0, .int .u64 0, .int .u64 0, .int .u64 0, .int .u64 0, .int .u64 0, .int .u64 0, .int .u64 0, .int .u64 0, .bool false] → w5.heap.size ≤ bm → Told (pkP c none GG) [c0, c1, c2, c3, c4, c5] [d0, d1, d2, d3, d4, d5] kc → wpAnyH _ _ _ _ _ _ _ _ wz)
                                case main =>
                                  intro k201
                                  apply with_key (T := ∀ (wz : World) (bn : Nat) (c0 c1 c2 c3 c4 c5 d0 d1 d2 d3 d4 d5 : Int) (kc : Bool), Hd S2 wz → Blk wz bn [.int .u64 0, .int .u64 0, .int .u64 0, .int .u64 0, .int .u64 0, .int .u64 0, .int .u64 0, .int .u64 0, .int .u64 0, .int .u64 0, .int .u64 0, .int .u64 0, .bool false] → w5.heap.size ≤ bn → Told (pkP c none GG) [c0, c1, c2, c3, c4, c5] [d0, d1, d2, d3, d4, d5] kc → wpAnyH _ _ _ _ _ _ _ _ wz)
                                  case main =>
                                    intro k210
                                    apply with_key (T := ∀ (wz : World) (bn : Nat) (bm : Nat), Hd S2 wz → Blk wz bn [.int .u64 0, .int .u64 0, .int .u64 0, .int .u64 0, .int .u64 0, .int .u64 0, .int .u64 0, .int .u64 0, .int .u64 0, .int .u64 0, .int .u64 0, .int .u64 0, .bool false] → w5.heap.size ≤ bn → Blk wz bm [.int .u64 0, .int .u64 0, .int .u64 0, .int .u64 0, .int .u64 0, .int .u64 0, .int .u64 0, .int .u64 0, .int .u64 0, .int .u64 0, .int .u64 0, .int .u64 0, .bool false] → w5.heap.size ≤ bm → bn ≠ bm → wpAnyH _ _ _ _ _ _ _ _ wz)
                                    case main =>
                                      intro k111
                                      apply with_key (T := ∀ (wz : World) (bm : Nat), Hd S2 wz → Blk wz bm [.int .u64 0, .int .u64 0, .int .u64 0, .int .u64 0, .int .u64 0, .int .u64 0, .int .u64 0, .int .u64 0, .int .u64 0, .int .u64 0, .int .u64 0, .int .u64 0, .bool false] → w5.heap.size ≤ bm → wpAnyH _ _ _ _ _ _ _ _ wz)
                                      case main =>
                                        intro k101
                                        apply with_key (T := ∀ (wz : World) (bn : Nat), Hd S2 wz → Blk wz bn [.int .u64 0, .int .u64 0, .int .u64 0, .int .u64 0, .int .u64 0, .int .u64 0, .int .u64 0, .int .u64 0, .int .u64 0, .int .u64 0, .int .u64 0, .int .u64 0, .bool false] → w5.heap.size ≤ bn → wpAnyH _ _ _ _ _ _ _ _ wz)
                                        case main =>
                                          intro k110
                                          apply with_key (T := ∀ (wz : World) (bn : Nat) (bm : Nat), Hd S2 wz → Blk wz bn [.int .u64 0, .int .u64 0, .int .u64 0, .int .u64 0, .int .u64 0, .int .u64 0, .int .u64 0, .int .u64 0, .int .u64 0, .int .u64 0, .int .u64 0, .int .u64 0, .bool false] → w5.heap.size ≤ bn → Blk wz bm [.int .u64 0, .int .u64 0, .int .u64 0, .int .u64 0, .int .u64 0, .int .u64 0, .int .u64 0, .int .u64 0, .int .u64 0, .int .u64 0, .int .u64 0, .int .u64 0, .bool false] → w5.heap.size ≤ bm → bn ≠ bm → wpAnyH _ _ _ _ _ _ _ _ wz)
                                          case main =>
                                            intro k011
                                            refine wpAnyH_ready (rs := [1, 8, 9]) (by kernel_rfl) (by simp) ?_
                                            refine AllReadyH.cons rfl (fun K hK => ?_) ?_
                                            · go_simp
                                              go_fit (con_inf)
                                              rintro e w6 ⟨rfl, hb⟩
                                              refine hK.out _ _ ?_ (fun hHeld2 => ?_)
                                              · exact KL2.out _ _ hHeld hb
                                              · clear hK K
                                                try clear hHeld
                                                have hHeld := hHeld2
                                                clear hHeld2
                                                try simp only [Act.put, List.setIfInBounds_toArray, List.set_cons_zero, List.set_cons_succ]
                                                clear hb
                                                refine wpAnyH_ready (rs := [3, 8, 9]) (by kernel_rfl) (by simp) ?_
                                                refine AllReadyH.cons rfl (fun K hK => ?_) ?_
                                                · go_simp
                                                  go_fit (con_pick6 C01c.out told_zero told_GC trivial on_G)
                                                  rintro e w6 ⟨c0, c1, c2, c3, c4, c5, d0, d1, d2, d3, d4, d5, kc, rfl, T1, hb⟩
                                                  refine hK.out _ _ ?_ (fun hHeld2 => ?_)
                                                  · exact KL2.out _ _ hHeld hb
                                                  · clear hK K
                                                    try clear hHeld
                                                    have hHeld := hHeld2
                                                    clear hHeld2
                                                    try simp only [Act.put, List.setIfInBounds_toArray, List.set_cons_zero, List.set_cons_succ]
                                                    clear hb
                                                    refine wpAnyH_ready (rs := [7, 8, 9]) (by kernel_rfl) (by simp) ?_
                                                    refine AllReadyH.cons rfl (fun K hK => ?_) ?_
                                                    · go_simp
                                                      go_fit (con_pick6 C01c.out HT.out TB HP.out OB.out)
                                                      rintro e w6 ⟨g0, g1, g2, g3, g4, g5, h0, h1, h2, h3, h4, h5, kg, rfl, T2, hb⟩
                                                      refine hK.out _ _ ?_ (fun hHeld2 => ?_)
                                                      · exact KL2.out _ _ hHeld hb
                                                      · clear hK K
                                                        try clear hHeld
                                                        have hHeld := hHeld2
                                                        clear hHeld2
                                                        try simp only [Act.put, List.setIfInBounds_toArray, List.set_cons_zero, List.set_cons_succ]
                                                        clear hb
                                                        refine wpAnyH_ready (rs := [8, 9]) (by kernel_rfl) (by simp) ?_
                                                        refine AllReadyH.cons rfl (fun K hK => ?_) ?_
                                                        · have hlt := KN2.out _ hHeld
                                                          go_simp
                                                          refine hK.out _ _ ?_ (fun hHeld2 => ?_)
                                                          · exact KA2.out _ _ hHeld
                                                          · clear hK K
                                                            try clear hHeld
                                                            have hHeld := hHeld2
                                                            clear hHeld2
                                                            try simp only [Act.put, List.setIfInBounds_toArray, List.set_cons_zero, List.set_cons_succ]
                                                            obtain ⟨bn, hbn, BN⟩ := newP_of hHeld
                                                            rw [← hbn]
                                                            have lbn : w5.heap.size ≤ bn := by omega
                                                            clear hlt hbn
                                                            generalize World.alloc _ _ = w9 at *
                                                            exact k310 w9 bn c0 c1 c2 c3 c4 c5 d0 d1 d2 d3 d4 d5 kc g0 g1 g2 g3 g4 g5 h0 h1 h2 h3 h4 h5 kg hHeld BN lbn T1 T2
                                                        refine AllReadyH.cons rfl (fun K hK => ?_) ?_
                                                        · have hlt := KN2.out _ hHeld
                                                          go_simp
                                                          refine hK.out _ _ ?_ (fun hHeld2 => ?_)
                                                          · exact KA2.out _ _ hHeld
                                                          · clear hK K
                                                            try clear hHeld
                                                            have hHeld := hHeld2
                                                            clear hHeld2
                                                            try simp only [Act.put, List.setIfInBounds_toArray, List.set_cons_zero, List.set_cons_succ]
                                                            obtain ⟨bm, hbm, BM⟩ := newP_of hHeld
                                                            rw [← hbm]
                                                            have lbm : w5.heap.size ≤ bm := by omega
                                                            clear hlt hbm
                                                            generalize World.alloc _ _ = w9 at *
                                                            exact k301 w9 bm c0 c1 c2 c3 c4 c5 d0 d1 d2 d3 d4 d5 kc g0 g1 g2 g3 g4 g5 h0 h1 h2 h3 h4 h5 kg hHeld BM lbm T1 T2
                                                        exact AllReadyH.nil
                                                    refine AllReadyH.cons rfl (fun K hK => ?_) ?_
                                                    · have hlt := KN2.out _ hHeld
                                                      go_simp
                                                      refine hK.out _ _ ?_ (fun hHeld2 => ?_)
                                                      · exact KA2.out _ _ hHeld
                                                      · clear hK K
                                                        try clear hHeld
                                                        have hHeld := hHeld2
                                                        clear hHeld2
                                                        try simp only [Act.put, List.setIfInBounds_toArray, List.set_cons_zero, List.set_cons_succ]
                                                        obtain ⟨bn, hbn, BN⟩ := newP_of hHeld
                                                        rw [← hbn]
                                                        have lbn : w5.heap.size ≤ bn := by omega
                                                        clear hlt hbn
                                                        generalize World.alloc _ _ = w9 at *
                                                        exact k210 w9 bn c0 c1 c2 c3 c4 c5 d0 d1 d2 d3 d4 d5 kc hHeld BN lbn T1
                                                    refine AllReadyH.cons rfl (fun K hK => ?_) ?_
                                                    · have hlt := KN2.out _ hHeld
                                                      go_simp
                                                      refine hK.out _ _ ?_ (fun hHeld2 => ?_)
                                                      · exact KA2.out _ _ hHeld
                                                      · clear hK K
                                                        try clear hHeld
                                                        have hHeld := hHeld2
                                                        clear hHeld2
                                                        try simp only [Act.put, List.setIfInBounds_toArray, List.set_cons_zero, List.set_cons_succ]
                                                        obtain ⟨bm, hbm, BM⟩ := newP_of hHeld
                                                        rw [← hbm]
                                                        have lbm : w5.heap.size ≤ bm := by omega
                                                        clear hlt hbm
                                                        generalize World.alloc _ _ = w9 at *
                                                        exact k201 w9 bm c0 c1 c2 c3 c4 c5 d0 d1 d2 d3 d4 d5 kc hHeld BM lbm T1
                                                    exact AllReadyH.nil
                                                refine AllReadyH.cons rfl (fun K hK => ?_) ?_
                                                · have hlt := KN2.out _ hHeld
                                                  go_simp
                                                  refine hK.out _ _ ?_ (fun hHeld2 => ?_)
                                                  · exact KA2.out _ _ hHeld
                                                  · clear hK K
                                                    try clear hHeld
                                                    have hHeld := hHeld2
                                                    clear hHeld2
                                                    try simp only [Act.put, List.setIfInBounds_toArray, List.set_cons_zero, List.set_cons_succ]
                                                    obtain ⟨bn, hbn, BN⟩ := newP_of hHeld
                                                    rw [← hbn]
                                                    have lbn : w5.heap.size ≤ bn := by omega
                                                    clear hlt hbn
                                                    generalize World.alloc _ _ = w9 at *
                                                    exact k110 w9 bn hHeld BN lbn
                                                refine AllReadyH.cons rfl (fun K hK => ?_) ?_
                                                · have hlt := KN2.out _ hHeld
                                                  go_simp
                                                  refine hK.out _ _ ?_ (fun hHeld2 => ?_)
                                                  · exact KA2.out _ _ hHeld
                                                  · clear hK K
                                                    try clear hHeld
                                                    have hHeld := hHeld2
                                                    clear hHeld2
                                                    try simp only [Act.put, List.setIfInBounds_toArray, List.set_cons_zero, List.set_cons_succ]
                                                    obtain ⟨bm, hbm, BM⟩ := newP_of hHeld
                                                    rw [← hbm]
                                                    have lbm : w5.heap.size ≤ bm := by omega
                                                    clear hlt hbm
                                                    generalize World.alloc _ _ = w9 at *
                                                    exact k101 w9 bm hHeld BM lbm
                                                exact AllReadyH.nil
                                            refine AllReadyH.cons rfl (fun K hK => ?_) ?_
                                            · have hlt := KN2.out _ hHeld
                                              go_simp
                                              refine hK.out _ _ ?_ (fun hHeld2 => ?_)
                                              · exact KA2.out _ _ hHeld
                                              · clear hK K
                                                try clear hHeld
                                                have hHeld := hHeld2
                                                clear hHeld2
                                                try simp only [Act.put, List.setIfInBounds_toArray, List.set_cons_zero, List.set_cons_succ]
                                                obtain ⟨bn, hbn, BN⟩ := newP_of hHeld
                                                rw [← hbn]
                                                have lbn : w5.heap.size ≤ bn := by omega
                                                clear hlt hbn
                                                generalize World.alloc _ _ = w9 at *
                                                refine wpAnyH_ready (rs := [1, 9]) (by kernel_rfl) (by simp) ?_
                                                refine AllReadyH.cons rfl (fun K hK => ?_) ?_
                                                · go_simp
                                                  go_fit (con_inf)
                                                  rintro e w6 ⟨rfl, hb⟩
                                                  refine hK.out _ _ ?_ (fun hHeld2 => ?_)
                                                  · exact KL2.out _ _ hHeld hb
                                                  · clear hK K
                                                    try clear hHeld
                                                    have hHeld := hHeld2
                                                    clear hHeld2
                                                    try simp only [Act.put, List.setIfInBounds_toArray, List.set_cons_zero, List.set_cons_succ]
                                                    replace BN := BN.later hb
                                                    clear hb
                                                    exact k110 w6 bn hHeld BN lbn
                                                refine AllReadyH.cons rfl (fun K hK => ?_) ?_
                                                · have hlt := KN2.out _ hHeld
                                                  go_simp
                                                  refine hK.out _ _ ?_ (fun hHeld2 => ?_)
                                                  · exact KA2.out _ _ hHeld
                                                  · clear hK K
                                                    try clear hHeld
                                                    have hHeld := hHeld2
                                                    clear hHeld2
                                                    try simp only [Act.put, List.setIfInBounds_toArray, List.set_cons_zero, List.set_cons_succ]
                                                    have lto := BN.lt
                                                    replace BN := BN.on_alloc hHeld
                                                    obtain ⟨bm, hbm, BM⟩ := newP_of hHeld
                                                    rw [← hbm]
                                                    have hne : bn ≠ bm := by omega
                                                    have lbm : w5.heap.size ≤ bm := by omega
                                                    clear hlt hbm lto
                                                    generalize World.alloc _ _ = w9 at *
                                                    exact k011 w9 bn bm hHeld BN lbn BM lbm hne
                                                exact AllReadyH.nil
                                            refine AllReadyH.cons rfl (fun K hK => ?_) ?_
                                            · have hlt := KN2.out _ hHeld
                                              go_simp
                                              refine hK.out _ _ ?_ (fun hHeld2 => ?_)
                                              · exact KA2.out _ _ hHeld
                                              · clear hK K
                                                try clear hHeld
                                                have hHeld := hHeld2
                                                clear hHeld2
                                                try simp only [Act.put, List.setIfInBounds_toArray, List.set_cons_zero, List.set_cons_succ]
                                                obtain ⟨bm, hbm, BM⟩ := newP_of hHeld
                                                rw [← hbm]
                                                have lbm : w5.heap.size ≤ bm := by omega
                                                clear hlt hbm
                                                generalize World.alloc _ _ = w9 at *
                                                refine wpAnyH_ready (rs := [1, 8]) (by kernel_rfl) (by simp) ?_
                                                refine AllReadyH.cons rfl (fun K hK => ?_) ?_
                                                · go_simp
                                                  go_fit (con_inf)
                                                  rintro e w6 ⟨rfl, hb⟩
                                                  refine hK.out _ _ ?_ (fun hHeld2 => ?_)
                                                  · exact KL2.out _ _ hHeld hb
                                                  · clear hK K
                                                    try clear hHeld
                                                    have hHeld := hHeld2
                                                    clear hHeld2
                                                    try simp only [Act.put, List.setIfInBounds_toArray, List.set_cons_zero, List.set_cons_succ]
                                                    replace BM := BM.later hb
                                                    clear hb
                                                    exact k101 w6 bm hHeld BM lbm
                                                refine AllReadyH.cons rfl (fun K hK => ?_) ?_
                                                · have hlt := KN2.out _ hHeld
                                                  go_simp
                                                  refine hK.out _ _ ?_ (fun hHeld2 => ?_)
                                                  · exact KA2.out _ _ hHeld
                                                  · clear hK K
                                                    try clear hHeld
                                                    have hHeld := hHeld2
                                                    clear hHeld2
                                                    try simp only [Act.put, List.setIfInBounds_toArray, List.set_cons_zero, List.set_cons_succ]
                                                    have lto := BM.lt
                                                    replace BM := BM.on_alloc hHeld
                                                    obtain ⟨bn, hbn, BN⟩ := newP_of hHeld
                                                    rw [← hbn]
                                                    have hne : bn ≠ bm := by omega
                                                    have lbn : w5.heap.size ≤ bn := by omega
                                                    clear hlt hbn lto
                                                    generalize World.alloc _ _ = w9 at *
                                                    exact k011 w9 bn bm hHeld BN lbn BM lbm hne
                                                exact AllReadyH.nil
                                            exact AllReadyH.nil
                                          case kp =>
                                            intro wz bn bm hHeld BN lbn BM lbm hne
                                            refine wpAnyH_ready (rs := [1]) (by kernel_rfl) (by simp) ?_
                                            refine AllReadyH.cons rfl (fun K hK => ?_) ?_
                                            · go_simp
                                              go_fit (con_inf)
                                              rintro e w6 ⟨rfl, hb⟩
                                              refine hK.out _ _ ?_ (fun hHeld2 => ?_)
                                              · exact KL2.out _ _ hHeld hb
                                              · clear hK K
                                                try clear hHeld
                                                have hHeld := hHeld2
                                                clear hHeld2
                                                try simp only [Act.put, List.setIfInBounds_toArray, List.set_cons_zero, List.set_cons_succ]
                                                replace BN := BN.later hb
                                                replace BM := BM.later hb
                                                clear hb
                                                exact k111 w6 bn bm hHeld BN lbn BM lbm hne
                                            exact AllReadyH.nil
                                        case kp =>
                                          intro wz bn hHeld BN lbn
                                          refine wpAnyH_ready (rs := [3, 9]) (by kernel_rfl) (by simp) ?_
                                          refine AllReadyH.cons rfl (fun K hK => ?_) ?_
                                          · go_simp
                                            go_fit (con_pick6 C01c.out told_zero told_GC trivial on_G)
                                            rintro e w6 ⟨c0, c1, c2, c3, c4, c5, d0, d1, d2, d3, d4, d5, kc, rfl, T1, hb⟩
                                            refine hK.out _ _ ?_ (fun hHeld2 => ?_)
                                            · exact KL2.out _ _ hHeld hb
                                            · clear hK K
                                              try clear hHeld
                                              have hHeld := hHeld2
                                              clear hHeld2
                                              try simp only [Act.put, List.setIfInBounds_toArray, List.set_cons_zero, List.set_cons_succ]
                                              replace BN := BN.later hb
                                              clear hb
                                              exact k210 w6 bn c0 c1 c2 c3 c4 c5 d0 d1 d2 d3 d4 d5 kc hHeld BN lbn T1
                                          refine AllReadyH.cons rfl (fun K hK => ?_) ?_
                                          · have hlt := KN2.out _ hHeld
                                            go_simp
                                            refine hK.out _ _ ?_ (fun hHeld2 => ?_)
                                            · exact KA2.out _ _ hHeld
                                            · clear hK K
                                              try clear hHeld
                                              have hHeld := hHeld2
                                              clear hHeld2
                                              try simp only [Act.put, List.setIfInBounds_toArray, List.set_cons_zero, List.set_cons_succ]
                                              have lto := BN.lt
                                              replace BN := BN.on_alloc hHeld
                                              obtain ⟨bm, hbm, BM⟩ := newP_of hHeld
                                              rw [← hbm]
                                              have hne : bn ≠ bm := by omega
                                              have lbm : w5.heap.size ≤ bm := by omega
                                              clear hlt hbm lto
                                              generalize World.alloc _ _ = w9 at *
                                              exact k111 w9 bn bm hHeld BN lbn BM lbm hne
                                          exact AllReadyH.nil
                                      case kp =>
                                        intro wz bm hHeld BM lbm
                                        refine wpAnyH_ready (rs := [3, 8]) (by kernel_rfl) (by simp) ?_
                                        refine AllReadyH.cons rfl (fun K hK => ?_) ?_
                                        · go_simp
                                          go_fit (con_pick6 C01c.out told_zero told_GC trivial on_G)
                                          rintro e w6 ⟨c0, c1, c2, c3, c4, c5, d0, d1, d2, d3, d4, d5, kc, rfl, T1, hb⟩
                                          refine hK.out _ _ ?_ (fun hHeld2 => ?_)
                                          · exact KL2.out _ _ hHeld hb
                                          · clear hK K
                                            try clear hHeld
                                            have hHeld := hHeld2
                                            clear hHeld2
                                            try simp only [Act.put, List.setIfInBounds_toArray, List.set_cons_zero, List.set_cons_succ]
                                            replace BM := BM.later hb
                                            clear hb
                                            exact k201 w6 bm c0 c1 c2 c3 c4 c5 d0 d1 d2 d3 d4 d5 kc hHeld BM lbm T1
                                        refine AllReadyH.cons rfl (fun K hK => ?_) ?_
                                        · have hlt := KN2.out _ hHeld
                                          go_simp
                                          refine hK.out _ _ ?_ (fun hHeld2 => ?_)
                                          · exact KA2.out _ _ hHeld
                                          · clear hK K
                                            try clear hHeld
                                            have hHeld := hHeld2
                                            clear hHeld2
                                            try simp only [Act.put, List.setIfInBounds_toArray, List.set_cons_zero, List.set_cons_succ]
                                            have lto := BM.lt
                                            replace BM := BM.on_alloc hHeld
                                            obtain ⟨bn, hbn, BN⟩ := newP_of hHeld
                                            rw [← hbn]
                                            have hne : bn ≠ bm := by omega
                                            have lbn : w5.heap.size ≤ bn := by omega
                                            clear hlt hbn lto
                                            generalize World.alloc _ _ = w9 at *
                                            exact k111 w9 bn bm hHeld BN lbn BM lbm hne
                                        exact AllReadyH.nil
                                    case kp =>
                                      intro wz bn bm hHeld BN lbn BM lbm hne
                                      refine wpAnyH_ready (rs := [3]) (by kernel_rfl) (by simp) ?_
                                      refine AllReadyH.cons rfl (fun K hK => ?_) ?_
                                      · go_simp
                                        go_fit (con_pick6 C01c.out told_zero told_GC trivial on_G)
                                        rintro e w6 ⟨c0, c1, c2, c3, c4, c5, d0, d1, d2, d3, d4, d5, kc, rfl, T1, hb⟩
                                        refine hK.out _ _ ?_ (fun hHeld2 => ?_)
                                        · exact KL2.out _ _ hHeld hb
                                        · clear hK K
                                          try clear hHeld
                                          have hHeld := hHeld2
                                          clear hHeld2
                                          try simp only [Act.put, List.setIfInBounds_toArray, List.set_cons_zero, List.set_cons_succ]
                                          replace BN := BN.later hb
                                          replace BM := BM.later hb
                                          clear hb
                                          exact k211 w6 bn bm c0 c1 c2 c3 c4 c5 d0 d1 d2 d3 d4 d5 kc hHeld BN lbn BM lbm hne T1
                                      exact AllReadyH.nil
                                  case kp =>
                                    intro wz bn c0 c1 c2 c3 c4 c5 d0 d1 d2 d3 d4 d5 kc hHeld BN lbn T1
                                    refine wpAnyH_ready (rs := [7, 9]) (by kernel_rfl) (by simp) ?_
                                    refine AllReadyH.cons rfl (fun K hK => ?_) ?_
                                    · go_simp
                                      go_fit (con_pick6 C01c.out HT.out TB HP.out OB.out)
                                      rintro e w6 ⟨g0, g1, g2, g3, g4, g5, h0, h1, h2, h3, h4, h5, kg, rfl, T2, hb⟩
                                      refine hK.out _ _ ?_ (fun hHeld2 => ?_)
                                      · exact KL2.out _ _ hHeld hb
                                      · clear hK K
                                        try clear hHeld
                                        have hHeld := hHeld2
                                        clear hHeld2
                                        try simp only [Act.put, List.setIfInBounds_toArray, List.set_cons_zero, List.set_cons_succ]
                                        replace BN := BN.later hb
                                        clear hb
                                        exact k310 w6 bn c0 c1 c2 c3 c4 c5 d0 d1 d2 d3 d4 d5 kc g0 g1 g2 g3 g4 g5 h0 h1 h2 h3 h4 h5 kg hHeld BN lbn T1 T2
                                    refine AllReadyH.cons rfl (fun K hK => ?_) ?_
                                    · have hlt := KN2.out _ hHeld
                                      go_simp
                                      refine hK.out _ _ ?_ (fun hHeld2 => ?_)
                                      · exact KA2.out _ _ hHeld
                                      · clear hK K
                                        try clear hHeld
                                        have hHeld := hHeld2
                                        clear hHeld2
                                        try simp only [Act.put, List.setIfInBounds_toArray, List.set_cons_zero, List.set_cons_succ]
                                        have lto := BN.lt
                                        replace BN := BN.on_alloc hHeld
                                        obtain ⟨bm, hbm, BM⟩ := newP_of hHeld
                                        rw [← hbm]
                                        have hne : bn ≠ bm := by omega
                                        have lbm : w5.heap.size ≤ bm := by omega
                                        clear hlt hbm lto
                                        generalize World.alloc _ _ = w9 at *
                                        exact k211 w9 bn bm c0 c1 c2 c3 c4 c5 d0 d1 d2 d3 d4 d5 kc hHeld BN lbn BM lbm hne T1
                                    exact AllReadyH.nil
                                case kp =>
                                  intro wz bm c0 c1 c2 c3 c4 c5 d0 d1 d2 d3 d4 d5 kc hHeld BM lbm T1
                                  refine wpAnyH_ready (rs := [7, 8]) (by kernel_rfl) (by simp) ?_
                                  refine AllReadyH.cons rfl (fun K hK => ?_) ?_
                                  · go_simp
                                    go_fit (con_pick6 C01c.out HT.out TB HP.out OB.out)
                                    rintro e w6 ⟨g0, g1, g2, g3, g4, g5, h0, h1, h2, h3, h4, h5, kg, rfl, T2, hb⟩
                                    refine hK.out _ _ ?_ (fun hHeld2 => ?_)
                                    · exact KL2.out _ _ hHeld hb
                                    · clear hK K
                                      try clear hHeld
                                      have hHeld := hHeld2
                                      clear hHeld2
                                      try simp only [Act.put, List.setIfInBounds_toArray, List.set_cons_zero, List.set_cons_succ]
                                      replace BM := BM.later hb
                                      clear hb
                                      exact k301 w6 bm c0 c1 c2 c3 c4 c5 d0 d1 d2 d3 d4 d5 kc g0 g1 g2 g3 g4 g5 h0 h1 h2 h3 h4 h5 kg hHeld BM lbm T1 T2
                                  refine AllReadyH.cons rfl (fun K hK => ?_) ?_
                                  · have hlt := KN2.out _ hHeld
                                    go_simp
                                    refine hK.out _ _ ?_ (fun hHeld2 => ?_)
                                    · exact KA2.out _ _ hHeld
                                    · clear hK K
                                      try clear hHeld
                                      have hHeld := hHeld2
                                      clear hHeld2
                                      try simp only [Act.put, List.setIfInBounds_toArray, List.set_cons_zero, List.set_cons_succ]
                                      have lto := BM.lt
                                      replace BM := BM.on_alloc hHeld
                                      obtain ⟨bn, hbn, BN⟩ := newP_of hHeld
                                      rw [← hbn]
                                      have hne : bn ≠ bm := by omega
                                      have lbn : w5.heap.size ≤ bn := by omega
                                      clear hlt hbn lto
                                      generalize World.alloc _ _ = w9 at *
                                      exact k211 w9 bn bm c0 c1 c2 c3 c4 c5 d0 d1 d2 d3 d4 d5 kc hHeld BN lbn BM lbm hne T1
                                  exact AllReadyH.nil
                              case kp =>
                                intro wz bn bm c0 c1 c2 c3 c4 c5 d0 d1 d2 d3 d4 d5 kc hHeld BN lbn BM lbm hne T1
                                refine wpAnyH_ready (rs := [7]) (by kernel_rfl) (by simp) ?_
                                refine AllReadyH.cons rfl (fun K hK => ?_) ?_
                                · go_simp
                                  go_fit (con_pick6 C01c.out HT.out TB HP.out OB.out)
                                  rintro e w6 ⟨g0, g1, g2, g3, g4, g5, h0, h1, h2, h3, h4, h5, kg, rfl, T2, hb⟩
                                  refine hK.out _ _ ?_ (fun hHeld2 => ?_)
                                  · exact KL2.out _ _ hHeld hb
                                  · clear hK K
                                    try clear hHeld
                                    have hHeld := hHeld2
                                    clear hHeld2
                                    try simp only [Act.put, List.setIfInBounds_toArray, List.set_cons_zero, List.set_cons_succ]
                                    replace BN := BN.later hb
                                    replace BM := BM.later hb
                                    clear hb
                                    exact k311 w6 bn bm c0 c1 c2 c3 c4 c5 d0 d1 d2 d3 d4 d5 kc g0 g1 g2 g3 g4 g5 h0 h1 h2 h3 h4 h5 kg hHeld BN lbn BM lbm hne T1 T2
                                exact AllReadyH.nil
                            case kp =>
                              intro wz bn c0 c1 c2 c3 c4 c5 d0 d1 d2 d3 d4 d5 kc g0 g1 g2 g3 g4 g5 h0 h1 h2 h3 h4 h5 kg hHeld BN lbn T1 T2
                              refine wpAnyH_ready (rs := [9]) (by kernel_rfl) (by simp) ?_
                              refine AllReadyH.cons rfl (fun K hK => ?_) ?_
                              · have hlt := KN2.out _ hHeld
                                go_simp
                                refine hK.out _ _ ?_ (fun hHeld2 => ?_)
                                · exact KA2.out _ _ hHeld
                                · clear hK K
                                  try clear hHeld
                                  have hHeld := hHeld2
                                  clear hHeld2
                                  try simp only [Act.put, List.setIfInBounds_toArray, List.set_cons_zero, List.set_cons_succ]
                                  have lto := BN.lt
                                  replace BN := BN.on_alloc hHeld
                                  obtain ⟨bm, hbm, BM⟩ := newP_of hHeld
                                  rw [← hbm]
                                  have hne : bn ≠ bm := by omega
                                  have lbm : w5.heap.size ≤ bm := by omega
                                  clear hlt hbm lto
                                  generalize World.alloc _ _ = w9 at *
                                  exact k311 w9 bn bm c0 c1 c2 c3 c4 c5 d0 d1 d2 d3 d4 d5 kc g0 g1 g2 g3 g4 g5 h0 h1 h2 h3 h4 h5 kg hHeld BN lbn BM lbm hne T1 T2
                              exact AllReadyH.nil
                          case kp =>
                            intro wz bm c0 c1 c2 c3 c4 c5 d0 d1 d2 d3 d4 d5 kc g0 g1 g2 g3 g4 g5 h0 h1 h2 h3 h4 h5 kg hHeld BM lbm T1 T2
                            refine wpAnyH_ready (rs := [8]) (by kernel_rfl) (by simp) ?_
                            refine AllReadyH.cons rfl (fun K hK => ?_) ?_
                            · have hlt := KN2.out _ hHeld
                              go_simp
                              refine hK.out _ _ ?_ (fun hHeld2 => ?_)
                              · exact KA2.out _ _ hHeld
                              · clear hK K
                                try clear hHeld
                                have hHeld := hHeld2
                                clear hHeld2
                                try simp only [Act.put, List.setIfInBounds_toArray, List.set_cons_zero, List.set_cons_succ]
                                have lto := BM.lt
                                replace BM := BM.on_alloc hHeld
                                obtain ⟨bn, hbn, BN⟩ := newP_of hHeld
                                rw [← hbn]
                                have hne : bn ≠ bm := by omega
                                have lbn : w5.heap.size ≤ bn := by omega
                                clear hlt hbn lto
                                generalize World.alloc _ _ = w9 at *
                                exact k311 w9 bn bm c0 c1 c2 c3 c4 c5 d0 d1 d2 d3 d4 d5 kc g0 g1 g2 g3 g4 g5 h0 h1 h2 h3 h4 h5 kg hHeld BN lbn BM lbm hne T1 T2
                            exact AllReadyH.nil
                        case kp =>
                          intro wz bn bm c0 c1 c2 c3 c4 c5 d0 d1 d2 d3 d4 d5 kc g0 g1 g2 g3 g4 g5 h0 h1 h2 h3 h4 h5 kg hHeld BN lbn BM lbm hne T1 T2
                          refine wpAnyH_ready (rs := [10]) (by kernel_rfl) (by simp) ?_
                          refine AllReadyH.cons rfl (fun K hK => ?_) ?_
                          · have ltb := BN.lt
                            have e0 := BN.cell 0 _ rfl; have i0 := BN.frozen 0; have e1 := BN.cell 1 _ rfl; have i1 := BN.frozen 1; have e2 := BN.cell 2 _ rfl; have i2 := BN.frozen 2; have e3 := BN.cell 3 _ rfl; have i3 := BN.frozen 3; have e4 := BN.cell 4 _ rfl; have i4 := BN.frozen 4; have e5 := BN.cell 5 _ rfl; have i5 := BN.frozen 5; have e6 := BN.cell 6 _ rfl; have i6 := BN.frozen 6; have e7 := BN.cell 7 _ rfl; have i7 := BN.frozen 7; have e8 := BN.cell 8 _ rfl; have i8 := BN.frozen 8; have e9 := BN.cell 9 _ rfl; have i9 := BN.frozen 9; have e10 := BN.cell 10 _ rfl; have i10 := BN.frozen 10; have e11 := BN.cell 11 _ rfl; have i11 := BN.frozen 11; have e12 := BN.cell 12 _ rfl; have i12 := BN.frozen 12
                            go_simp
                            refine hK.out _ _ ?_ (fun hHeld2 => ?_)
                            · exact (KQ2.out _ _ _ _ (KQ2.out _ _ _ _ (KQ2.out _ _ _ _ (KQ2.out _ _ _ _ (KQ2.out _ _ _ _ (KQ2.out _ _ _ _ (KQ2.out _ _ _ _ (KQ2.out _ _ _ _ (KQ2.out _ _ _ _ (KQ2.out _ _ _ _ (KQ2.out _ _ _ _ (KQ2.out _ _ _ _ (KQ2.out _ _ _ _ hHeld (Or.inl (by omega)) (by omega)) (Or.inl (by omega)) (by omega)) (Or.inl (by omega)) (by omega)) (Or.inl (by omega)) (by omega)) (Or.inl (by omega)) (by omega)) (Or.inl (by omega)) (by omega)) (Or.inl (by omega)) (by omega)) (Or.inl (by omega)) (by omega)) (Or.inl (by omega)) (by omega)) (Or.inl (by omega)) (by omega)) (Or.inl (by omega)) (by omega)) (Or.inl (by omega)) (by omega)) (Or.inl (by omega)) (by omega))
                            · clear hK K
                              try clear hHeld
                              have hHeld := hHeld2
                              clear hHeld2
                              try simp only [Act.put, List.setIfInBounds_toArray, List.set_cons_zero, List.set_cons_succ]
                              clear ltb e0 i0 e1 i1 e2 i2 e3 i3 e4 i4 e5 i5 e6 i6 e7 i7 e8 i8 e9 i9 e10 i10 e11 i11 e12 i12
                              replace BN := BN.on_putP hHeld
                              replace BM := BM.on_farP hHeld (by omega)
                              refine wpAnyH_ready (rs := [11]) (by kernel_rfl) (by simp) ?_
                              refine AllReadyH.cons rfl (fun K hK => ?_) ?_
                              · have ltb := BM.lt
                                have e0 := BM.cell 0 _ rfl; have i0 := BM.frozen 0; have e1 := BM.cell 1 _ rfl; have i1 := BM.frozen 1; have e2 := BM.cell 2 _ rfl; have i2 := BM.frozen 2; have e3 := BM.cell 3 _ rfl; have i3 := BM.frozen 3; have e4 := BM.cell 4 _ rfl; have i4 := BM.frozen 4; have e5 := BM.cell 5 _ rfl; have i5 := BM.frozen 5; have e6 := BM.cell 6 _ rfl; have i6 := BM.frozen 6; have e7 := BM.cell 7 _ rfl; have i7 := BM.frozen 7; have e8 := BM.cell 8 _ rfl; have i8 := BM.frozen 8; have e9 := BM.cell 9 _ rfl; have i9 := BM.frozen 9; have e10 := BM.cell 10 _ rfl; have i10 := BM.frozen 10; have e11 := BM.cell 11 _ rfl; have i11 := BM.frozen 11; have e12 := BM.cell 12 _ rfl; have i12 := BM.frozen 12
                                go_simp
                                refine hK.out _ _ ?_ (fun hHeld2 => ?_)
                                · exact (KQ2.out _ _ _ _ (KQ2.out _ _ _ _ (KQ2.out _ _ _ _ (KQ2.out _ _ _ _ (KQ2.out _ _ _ _ (KQ2.out _ _ _ _ (KQ2.out _ _ _ _ (KQ2.out _ _ _ _ (KQ2.out _ _ _ _ (KQ2.out _ _ _ _ (KQ2.out _ _ _ _ (KQ2.out _ _ _ _ (KQ2.out _ _ _ _ hHeld (Or.inl (by omega)) (by omega)) (Or.inl (by omega)) (by omega)) (Or.inl (by omega)) (by omega)) (Or.inl (by omega)) (by omega)) (Or.inl (by omega)) (by omega)) (Or.inl (by omega)) (by omega)) (Or.inl (by omega)) (by omega)) (Or.inl (by omega)) (by omega)) (Or.inl (by omega)) (by omega)) (Or.inl (by omega)) (by omega)) (Or.inl (by omega)) (by omega)) (Or.inl (by omega)) (by omega)) (Or.inl (by omega)) (by omega))
                                · clear hK K
                                  try clear hHeld
                                  have hHeld := hHeld2
                                  clear hHeld2
                                  try simp only [Act.put, List.setIfInBounds_toArray, List.set_cons_zero, List.set_cons_succ]
                                  clear ltb e0 i0 e1 i1 e2 i2 e3 i3 e4 i4 e5 i5 e6 i6 e7 i7 e8 i8 e9 i9 e10 i10 e11 i11 e12 i12
                                  replace BM := BM.on_putP hHeld
                                  replace BN := BN.on_farP hHeld (by omega)
                                  refine wpAnyH_done (by kernel_rfl) ?_ _
                                  refine NoPanic.normal ?_
                                  go_wp2_with fail
                                  go_meet
                                  exact ⟨bn, bm, c0, c1, c2, c3, c4, c5, d0, d1, d2, d3, d4, d5, kc, g0, g1, g2, g3, g4, g5, h0, h1, h2, h3, h4, h5, kg, rfl, rfl, by omega, by omega, T1, T2, BN, BM, hHeld⟩
                              exact AllReadyH.nil
                          exact AllReadyH.nil
                      case rest =>
                        clear hS2
                        obtain ⟨bb1, bb2, c0, c1, c2, c3, c4, c5, d0, d1, d2, d3, d4, d5, kc, g0, g1, g2, g3, g4, g5, h0, h1, h2, h3, h4, h5, kg, rfl, rfl, hb1, hb2, T1, T2, BM, BN, hS2⟩ := hcut
                        have Bu := KM2.out _ (w.heap.size) _ hS2 (List.Mem.head _)
                        have Bv := KM2.out _ (w.heap.size + 1) _ hS2 (List.Mem.tail _ (List.Mem.head _))
                        have Bq := KM2.out _ (w.heap.size + 1 + 1) _ hS2 (List.Mem.tail _ (List.Mem.tail _ (List.Mem.head _)))
                        have Br := KM2.out _ (w.heap.size + 1 + 1 + 1) _ hS2 (List.Mem.tail _ (List.Mem.tail _ (List.Mem.tail _ (List.Mem.head _))))
                        have Bg := KM2.out _ (bg) _ hS2 (List.Mem.tail _ (List.Mem.tail _ (List.Mem.tail _ (List.Mem.tail _ (List.Mem.head _)))))
                        have Bh := KM2.out _ (bh) _ hS2 (List.Mem.tail _ (List.Mem.tail _ (List.Mem.tail _ (List.Mem.tail _ (List.Mem.tail _ (List.Mem.head _))))))
                        have BO := KM2.out _ (bo) _ hS2 (List.Mem.tail _ (List.Mem.tail _ (List.Mem.tail _ (List.Mem.tail _ (List.Mem.tail _ (List.Mem.tail _ (List.Mem.head _)))))))
                        have bel := KB2.out _ hS2
                        clear hS2 hN2 lto c2c0 c2c1 c2c2 c2c3 c2c4 c2c5 c2c6 c2c7 c2c8 c2c9 c2c10 c2c11 c2c12 c2cl c2e0 c2e1 c2e2 c2e3 c2e4 c2e5 c2e6 c2e7 c2e8 c2e9 c2e10 c2e11 c2e12 c2el c2f0 c2f1 c2f2 c2f3 c2f4 c2f5 c2f6 c2f7 c2f8 c2f9 c2f10 c2f11 c2f12 c2fl KL2 KA2 KD2 KS2 KQ2 KN2 KB2 KM2 KR2
                        go_upto_region 11 with fail
                        have O1 : Hid (OnC (pkP c none GG)) := pkP_on trivial on_G
                        have O2 : Hid (OnC (pkP c P (cadd GG P))) := pkP_on HP.out OB.out
                        have O3 : Hid (OnC (pkP d (pkP c none GG) (pkP c P (cadd GG P)))) := pkP_on O1.out O2.out
                        have O4 : Hid _ := on_add OQ.out OQ.out
                        have lto := BO.lt
                        have ltr := Br.lt
                        obtain ⟨S3, hS3, KL3, KA3, KD3, KS3, KQ3, KN3, KB3, KM3, KR3⟩ := held3 (w0 := w) (W := _) [(w.heap.size, [.int .u64 a0, .int .u64 a1, .int .u64 a2, .int .u64 a3, .int .u64 a4, .int .u64 a5]), (w.heap.size + 1, [.int .u64 b0, .int .u64 b1, .int .u64 b2, .int .u64 b3, .int .u64 b4, .int .u64 b5]), (w.heap.size + 1 + 1, [.int .u64 x0, .int .u64 x1, .int .u64 x2, .int .u64 x3, .int .u64 x4, .int .u64 x5, .int .u64 y0, .int .u64 y1, .int .u64 y2, .int .u64 y3, .int .u64 y4, .int .u64 y5, .bool n]), (w.heap.size + 1 + 1 + 1, [.int .u64 0, .int .u64 0, .int .u64 0, .int .u64 0, .int .u64 0, .int .u64 0, .int .u64 0, .int .u64 0, .int .u64 0, .int .u64 0, .int .u64 0, .int .u64 0, .bool false]), (bg, [.int .u64 4203087948775033527, .int .u64 6125724927633205612, .int .u64 6482722621138151992, .int .u64 7934563412932533144, .int .u64 10282218360005504372, .int .u64 12288012358878168375, .int .u64 8809917716911230559, .int .u64 747793036959711645, .int .u64 16850834916486723776, .int .u64 17938995913990739068, .int .u64 6745997240412855337, .int .u64 3897828414440483951, .bool false]), (bh, [.int .u64 p0, .int .u64 p1, .int .u64 p2, .int .u64 p3, .int .u64 p4, .int .u64 p5, .int .u64 q0, .int .u64 q1, .int .u64 q2, .int .u64 q3, .int .u64 q4, .int .u64 q5, .bool kp]), (bb1, [.int .u64 c0, .int .u64 c1, .int .u64 c2, .int .u64 c3, .int .u64 c4, .int .u64 c5, .int .u64 d0, .int .u64 d1, .int .u64 d2, .int .u64 d3, .int .u64 d4, .int .u64 d5, .bool kc]), (bb2, [.int .u64 g0, .int .u64 g1, .int .u64 g2, .int .u64 g3, .int .u64 g4, .int .u64 g5, .int .u64 h0, .int .u64 h1, .int .u64 h2, .int .u64 h3, .int .u64 h4, .int .u64 h5, .bool kg])] (by
                          intro b X h
                          simp only [List.mem_cons, List.not_mem_nil, or_false, Prod.mk.injEq] at h
                          rcases h with ⟨rfl, rfl⟩ | ⟨rfl, rfl⟩ | ⟨rfl, rfl⟩ | ⟨rfl, rfl⟩ | ⟨rfl, rfl⟩ | ⟨rfl, rfl⟩ | ⟨rfl, rfl⟩ | ⟨rfl, rfl⟩
                          · exact Bu
                          · exact Bv
                          · exact Bq
                          · exact Br
                          · exact Bg
                          · exact Bh
                          · exact BM
                          · exact BN) bel
                        have kb3g : ∀ wx, Hd S3 wx → Blk wx (bb1) [.int .u64 c0, .int .u64 c1, .int .u64 c2, .int .u64 c3, .int .u64 c4, .int .u64 c5, .int .u64 d0, .int .u64 d1, .int .u64 d2, .int .u64 d3, .int .u64 d4, .int .u64 d5, .bool kc] := fun wx h => KM3.out wx _ _ h (by simp)
                        have c3g0 := rulec kb3g 0 _ rfl
                        have c3g1 := rulec kb3g 1 _ rfl
                        have c3g2 := rulec kb3g 2 _ rfl
                        have c3g3 := rulec kb3g 3 _ rfl
                        have c3g4 := rulec kb3g 4 _ rfl
                        have c3g5 := rulec kb3g 5 _ rfl
                        have c3g6 := rulec kb3g 6 _ rfl
                        have c3g7 := rulec kb3g 7 _ rfl
                        have c3g8 := rulec kb3g 8 _ rfl
                        have c3g9 := rulec kb3g 9 _ rfl
                        have c3g10 := rulec kb3g 10 _ rfl
                        have c3g11 := rulec kb3g 11 _ rfl
                        have c3g12 := rulec kb3g 12 _ rfl
                        have c3gl := ruleb kb3g
                        clear kb3g
                        have kb3h : ∀ wx, Hd S3 wx → Blk wx (bb2) [.int .u64 g0, .int .u64 g1, .int .u64 g2, .int .u64 g3, .int .u64 g4, .int .u64 g5, .int .u64 h0, .int .u64 h1, .int .u64 h2, .int .u64 h3, .int .u64 h4, .int .u64 h5, .bool kg] := fun wx h => KM3.out wx _ _ h (by simp)
                        have c3h0 := rulec kb3h 0 _ rfl
                        have c3h1 := rulec kb3h 1 _ rfl
                        have c3h2 := rulec kb3h 2 _ rfl
                        have c3h3 := rulec kb3h 3 _ rfl
                        have c3h4 := rulec kb3h 4 _ rfl
                        have c3h5 := rulec kb3h 5 _ rfl
                        have c3h6 := rulec kb3h 6 _ rfl
                        have c3h7 := rulec kb3h 7 _ rfl
                        have c3h8 := rulec kb3h 8 _ rfl
                        have c3h9 := rulec kb3h 9 _ rfl
                        have c3h10 := rulec kb3h 10 _ rfl
                        have c3h11 := rulec kb3h 11 _ rfl
                        have c3h12 := rulec kb3h 12 _ rfl
                        have c3hl := ruleb kb3h
                        clear kb3h
                        have hN3 := bel.size
                        have mq : ∀ c X, (c, X) ∈ [((w.heap.size : Nat), ([.int .u64 a0, .int .u64 a1, .int .u64 a2, .int .u64 a3, .int .u64 a4, .int .u64 a5] : List Value)), ((w.heap.size + 1 : Nat), ([.int .u64 b0, .int .u64 b1, .int .u64 b2, .int .u64 b3, .int .u64 b4, .int .u64 b5] : List Value)), ((w.heap.size + 1 + 1 : Nat), ([.int .u64 x0, .int .u64 x1, .int .u64 x2, .int .u64 x3, .int .u64 x4, .int .u64 x5, .int .u64 y0, .int .u64 y1, .int .u64 y2, .int .u64 y3, .int .u64 y4, .int .u64 y5, .bool n] : List Value)), ((w.heap.size + 1 + 1 + 1 : Nat), ([.int .u64 0, .int .u64 0, .int .u64 0, .int .u64 0, .int .u64 0, .int .u64 0, .int .u64 0, .int .u64 0, .int .u64 0, .int .u64 0, .int .u64 0, .int .u64 0, .bool false] : List Value)), ((bg : Nat), ([.int .u64 4203087948775033527, .int .u64 6125724927633205612, .int .u64 6482722621138151992, .int .u64 7934563412932533144, .int .u64 10282218360005504372, .int .u64 12288012358878168375, .int .u64 8809917716911230559, .int .u64 747793036959711645, .int .u64 16850834916486723776, .int .u64 17938995913990739068, .int .u64 6745997240412855337, .int .u64 3897828414440483951, .bool false] : List Value)), ((bh : Nat), ([.int .u64 p0, .int .u64 p1, .int .u64 p2, .int .u64 p3, .int .u64 p4, .int .u64 p5, .int .u64 q0, .int .u64 q1, .int .u64 q2, .int .u64 q3, .int .u64 q4, .int .u64 q5, .bool kp] : List Value)), ((bb1 : Nat), ([.int .u64 c0, .int .u64 c1, .int .u64 c2, .int .u64 c3, .int .u64 c4, .int .u64 c5, .int .u64 d0, .int .u64 d1, .int .u64 d2, .int .u64 d3, .int .u64 d4, .int .u64 d5, .bool kc] : List Value)), ((bb2 : Nat), ([.int .u64 g0, .int .u64 g1, .int .u64 g2, .int .u64 g3, .int .u64 g4, .int .u64 g5, .int .u64 h0, .int .u64 h1, .int .u64 h2, .int .u64 h3, .int .u64 h4, .int .u64 h5, .bool kg] : List Value))] → c ≠ bo := by
                          intro c X h
                          simp only [List.mem_cons, List.not_mem_nil, or_false, Prod.mk.injEq] at h
                          omega
                        clear bel BM BN Bu Bv Bq Br Bg Bh
                        refine wp_region_noPanic ?_
                        refine wp_region_held_drew (S := Hd S3) (by kernel_rfl) (KD3.out _ hS3) (fun hHeld => ?_)
                        clear hS3
                        replace BO := BO.drew
                        generalize World.drew _ = wd at *
                        refine wpAnyH_take (i := 3) (v := ?_) rfl (by kernel_rfl) (by kernel_rfl) (by kernel_rfl) (fun _ _ _ h => h) (Or.inl ⟨by rfl, ?_⟩) (by assumption) ?_
                        rotate_left
                        · intro w hSw
                          go_simp
                          with_reducible rfl
                        try simp only [Act.put, List.setIfInBounds_toArray, List.set_cons_zero, List.set_cons_succ]
                        refine wpAnyH_take (i := 4) (v := ?_) rfl (by kernel_rfl) (by kernel_rfl) (by kernel_rfl) (fun _ _ _ h => h) (Or.inl ⟨by rfl, ?_⟩) (by assumption) ?_
                        rotate_left
                        · intro w hSw
                          go_simp
                          with_reducible rfl
                        try simp only [Act.put, List.setIfInBounds_toArray, List.set_cons_zero, List.set_cons_succ]
                        refine wpAnyH_take (i := 5) (v := ?_) rfl (by kernel_rfl) (by kernel_rfl) (by kernel_rfl) (fun _ _ _ h => h) (Or.inl ⟨by rfl, ?_⟩) (by assumption) ?_
                        rotate_left
                        · intro w hSw
                          go_simp
                          with_reducible rfl
                        try simp only [Act.put, List.setIfInBounds_toArray, List.set_cons_zero, List.set_cons_succ]
                        clear c3g0 c3g1 c3g2 c3g3 c3g4 c3g5 c3g6 c3g7 c3g8 c3g9 c3g10 c3g11 c3g12 c3gl c3h0 c3h1 c3h2 c3h3 c3h4 c3h5 c3h6 c3h7 c3h8 c3h9 c3h10 c3h11 c3h12 c3hl
                        refine wpAnyH_ready (rs := [0, 1]) (by kernel_rfl) (by simp) ?_
                        refine AllReadyH.cons rfl (fun K hK => ?_) ?_
                        · have lts := BO.lt
                          have e0 := BO.cell 0 _ rfl; have i0 := BO.frozen 0; have e1 := BO.cell 1 _ rfl; have i1 := BO.frozen 1; have e2 := BO.cell 2 _ rfl; have i2 := BO.frozen 2; have e3 := BO.cell 3 _ rfl; have i3 := BO.frozen 3; have e4 := BO.cell 4 _ rfl; have i4 := BO.frozen 4; have e5 := BO.cell 5 _ rfl; have i5 := BO.frozen 5; have e6 := BO.cell 6 _ rfl; have i6 := BO.frozen 6; have e7 := BO.cell 7 _ rfl; have i7 := BO.frozen 7; have e8 := BO.cell 8 _ rfl; have i8 := BO.frozen 8; have e9 := BO.cell 9 _ rfl; have i9 := BO.frozen 9; have e10 := BO.cell 10 _ rfl; have i10 := BO.frozen 10; have e11 := BO.cell 11 _ rfl; have i11 := BO.frozen 11; have e12 := BO.cell 12 _ rfl; have i12 := BO.frozen 12
                          go_simp
                          refine hK.out _ _ ?_ (fun hHeld2 => ?_)
                          · exact hHeld
                          · clear hK K hHeld
                            have hHeld := hHeld2
                            clear hHeld2
                            try simp only [Act.put, List.setIfInBounds_toArray, List.set_cons_zero, List.set_cons_succ]
                            clear lts e0 i0 e1 i1 e2 i2 e3 i3 e4 i4 e5 i5 e6 i6 e7 i7 e8 i8 e9 i9 e10 i10 e11 i11 e12 i12
                            refine wpAnyH_ready (rs := [1]) (by kernel_rfl) (by simp) ?_
                            refine AllReadyH.cons rfl (fun K hK => ?_) ?_
                            · have lts := BO.lt
                              have e0 := BO.cell 0 _ rfl; have i0 := BO.frozen 0; have e1 := BO.cell 1 _ rfl; have i1 := BO.frozen 1; have e2 := BO.cell 2 _ rfl; have i2 := BO.frozen 2; have e3 := BO.cell 3 _ rfl; have i3 := BO.frozen 3; have e4 := BO.cell 4 _ rfl; have i4 := BO.frozen 4; have e5 := BO.cell 5 _ rfl; have i5 := BO.frozen 5; have e6 := BO.cell 6 _ rfl; have i6 := BO.frozen 6; have e7 := BO.cell 7 _ rfl; have i7 := BO.frozen 7; have e8 := BO.cell 8 _ rfl; have i8 := BO.frozen 8; have e9 := BO.cell 9 _ rfl; have i9 := BO.frozen 9; have e10 := BO.cell 10 _ rfl; have i10 := BO.frozen 10; have e11 := BO.cell 11 _ rfl; have i11 := BO.frozen 11; have e12 := BO.cell 12 _ rfl; have i12 := BO.frozen 12
                              go_simp
                              refine hK.out _ _ ?_ (fun hHeld2 => ?_)
                              · exact hHeld
                              · clear hK K hHeld
                                have hHeld := hHeld2
                                clear hHeld2
                                try simp only [Act.put, List.setIfInBounds_toArray, List.set_cons_zero, List.set_cons_succ]
                                clear lts e0 i0 e1 i1 e2 i2 e3 i3 e4 i4 e5 i5 e6 i6 e7 i7 e8 i8 e9 i9 e10 i10 e11 i11 e12 i12
                                refine wpAnyH_ready (rs := [2]) (by kernel_rfl) (by simp) ?_
                                refine AllReadyH.cons rfl (fun K hK => ?_) ?_
                                · go_simp
                                  go_fit (con_add6 (G.below (KB3.out _ hHeld)) TO TO OQ.out OQ.out)
                                  rintro e w6 ⟨l0, l1, l2, l3, l4, l5, o0, o1, o2, o3, o4, o5, kl, rfl, T3, hb⟩
                                  refine hK.out _ _ ?_ (fun hHeld2 => ?_)
                                  · exact KL3.out _ _ hHeld hb
                                  · clear hK K hHeld
                                    have hHeld := hHeld2
                                    clear hHeld2
                                    try simp only [Act.put, List.setIfInBounds_toArray, List.set_cons_zero, List.set_cons_succ]
                                    replace BO := BO.later hb
                                    clear hb
                                    refine wpAnyH_ready (rs := [6]) (by kernel_rfl) (by simp) ?_
                                    refine AllReadyH.cons rfl (fun K hK => ?_) ?_
                                    · go_simp
                                      go_fit (con_pick6 C01d.out T1 T2 O1.out O2.out)
                                      rintro e w7 ⟨v0, v1, v2, v3, v4, v5, f0, f1, f2, f3, f4, f5, kv, rfl, T4, hb⟩
                                      refine hK.out _ _ ?_ (fun hHeld2 => ?_)
                                      · exact KL3.out _ _ hHeld hb
                                      · clear hK K hHeld
                                        have hHeld := hHeld2
                                        clear hHeld2
                                        try simp only [Act.put, List.setIfInBounds_toArray, List.set_cons_zero, List.set_cons_succ]
                                        replace BO := BO.later hb
                                        clear hb
                                        refine wpAnyH_ready (rs := [7]) (by kernel_rfl) (by simp) ?_
                                        refine AllReadyH.cons rfl (fun K hK => ?_) ?_
                                        · go_simp
                                          go_fit (con_add6 (G.below (KB3.out _ hHeld)) T3 T4 O4.out O3.out)
                                          rintro e w8 ⟨r0, r1, r2, r3, r4, r5, z0, z1, z2, z3, z4, z5, kr, rfl, T5, hb⟩
                                          refine hK.out _ _ ?_ (fun hHeld2 => ?_)
                                          · exact KL3.out _ _ hHeld hb
                                          · clear hK K hHeld
                                            have hHeld := hHeld2
                                            clear hHeld2
                                            try simp only [Act.put, List.setIfInBounds_toArray, List.set_cons_zero, List.set_cons_succ]
                                            replace BO := BO.later hb
                                            clear hb
                                            refine wpAnyH_ready (rs := [8]) (by kernel_rfl) (by simp) ?_
                                            refine AllReadyH.cons rfl (fun K hK => ?_) ?_
                                            · have lts := BO.lt
                                              have e0 := BO.cell 0 _ rfl; have i0 := BO.frozen 0; have e1 := BO.cell 1 _ rfl; have i1 := BO.frozen 1; have e2 := BO.cell 2 _ rfl; have i2 := BO.frozen 2; have e3 := BO.cell 3 _ rfl; have i3 := BO.frozen 3; have e4 := BO.cell 4 _ rfl; have i4 := BO.frozen 4; have e5 := BO.cell 5 _ rfl; have i5 := BO.frozen 5; have e6 := BO.cell 6 _ rfl; have i6 := BO.frozen 6; have e7 := BO.cell 7 _ rfl; have i7 := BO.frozen 7; have e8 := BO.cell 8 _ rfl; have i8 := BO.frozen 8; have e9 := BO.cell 9 _ rfl; have i9 := BO.frozen 9; have e10 := BO.cell 10 _ rfl; have i10 := BO.frozen 10; have e11 := BO.cell 11 _ rfl; have i11 := BO.frozen 11; have e12 := BO.cell 12 _ rfl; have i12 := BO.frozen 12
                                              go_simp
                                              refine hK.out _ _ ?_ (fun hHeld2 => ?_)
                                              · exact (KQ3.out _ _ _ _ (KQ3.out _ _ _ _ (KQ3.out _ _ _ _ (KQ3.out _ _ _ _ (KQ3.out _ _ _ _ (KQ3.out _ _ _ _ (KQ3.out _ _ _ _ (KQ3.out _ _ _ _ (KQ3.out _ _ _ _ (KQ3.out _ _ _ _ (KQ3.out _ _ _ _ (KQ3.out _ _ _ _ (KQ3.out _ _ _ _ hHeld (Or.inr mq) (by omega)) (Or.inr mq) (by omega)) (Or.inr mq) (by omega)) (Or.inr mq) (by omega)) (Or.inr mq) (by omega)) (Or.inr mq) (by omega)) (Or.inr mq) (by omega)) (Or.inr mq) (by omega)) (Or.inr mq) (by omega)) (Or.inr mq) (by omega)) (Or.inr mq) (by omega)) (Or.inr mq) (by omega)) (Or.inr mq) (by omega))
                                              · clear hK K hHeld
                                                have hHeld := hHeld2
                                                clear hHeld2
                                                try simp only [Act.put, List.setIfInBounds_toArray, List.set_cons_zero, List.set_cons_succ]
                                                clear lts e0 i0 e1 i1 e2 i2 e3 i3 e4 i4 e5 i5 e6 i6 e7 i7 e8 i8 e9 i9 e10 i10 e11 i11 e12 i12
                                                replace BO := BO.on_putP hHeld
                                                refine wpAnyH_done (by kernel_rfl) ?_ _
                                                refine NoPanic.normal ?_
                                                have Bu := KM3.out _ (w.heap.size) _ hHeld (List.Mem.head _)
                                                have Bv := KM3.out _ (w.heap.size + 1) _ hHeld (List.Mem.tail _ (List.Mem.head _))
                                                have Bq := KM3.out _ (w.heap.size + 1 + 1) _ hHeld (List.Mem.tail _ (List.Mem.tail _ (List.Mem.head _)))
                                                have Br := KM3.out _ (w.heap.size + 1 + 1 + 1) _ hHeld (List.Mem.tail _ (List.Mem.tail _ (List.Mem.tail _ (List.Mem.head _))))
                                                have Bg := KM3.out _ (bg) _ hHeld (List.Mem.tail _ (List.Mem.tail _ (List.Mem.tail _ (List.Mem.tail _ (List.Mem.head _)))))
                                                have Bh := KM3.out _ (bh) _ hHeld (List.Mem.tail _ (List.Mem.tail _ (List.Mem.tail _ (List.Mem.tail _ (List.Mem.tail _ (List.Mem.head _))))))
                                                have bel := KB3.out _ hHeld
                                                clear hHeld mq hN3 KL3 KA3 KD3 KS3 KQ3 KN3 KB3 KM3 KR3
                                                generalize World.setCell _ _ _ = w9 at *
                                                go_wp2_with fail
                                                go_roundw
                                                case rel => exact ⟨k + 1, by omega, rfl, ⟨r0, r1, r2, r3, r4, r5, z0, z1, z2, z3, z4, z5, kr, BO, by rw [EJ.out, ← two_round HP.out HDc.out HDd.out]; exact T5⟩, Bu, Bv, Bq, Br, Bg, Bh, bel⟩
                                                case measure => simp [intOf]; omega
                                            exact AllReadyH.nil
                                        exact AllReadyH.nil
                                    exact AllReadyH.nil
                                exact AllReadyH.nil
                            exact AllReadyH.nil
                        refine AllReadyH.cons rfl (fun K hK => ?_) ?_
                        · have lts := BO.lt
                          have e0 := BO.cell 0 _ rfl; have i0 := BO.frozen 0; have e1 := BO.cell 1 _ rfl; have i1 := BO.frozen 1; have e2 := BO.cell 2 _ rfl; have i2 := BO.frozen 2; have e3 := BO.cell 3 _ rfl; have i3 := BO.frozen 3; have e4 := BO.cell 4 _ rfl; have i4 := BO.frozen 4; have e5 := BO.cell 5 _ rfl; have i5 := BO.frozen 5; have e6 := BO.cell 6 _ rfl; have i6 := BO.frozen 6; have e7 := BO.cell 7 _ rfl; have i7 := BO.frozen 7; have e8 := BO.cell 8 _ rfl; have i8 := BO.frozen 8; have e9 := BO.cell 9 _ rfl; have i9 := BO.frozen 9; have e10 := BO.cell 10 _ rfl; have i10 := BO.frozen 10; have e11 := BO.cell 11 _ rfl; have i11 := BO.frozen 11; have e12 := BO.cell 12 _ rfl; have i12 := BO.frozen 12
                          go_simp
                          refine hK.out _ _ ?_ (fun hHeld2 => ?_)
                          · exact hHeld
                          · clear hK K hHeld
                            have hHeld := hHeld2
                            clear hHeld2
                            try simp only [Act.put, List.setIfInBounds_toArray, List.set_cons_zero, List.set_cons_succ]
                            clear lts e0 i0 e1 i1 e2 i2 e3 i3 e4 i4 e5 i5 e6 i6 e7 i7 e8 i8 e9 i9 e10 i10 e11 i11 e12 i12
                            refine wpAnyH_ready (rs := [0]) (by kernel_rfl) (by simp) ?_
                            refine AllReadyH.cons rfl (fun K hK => ?_) ?_
                            · have lts := BO.lt
                              have e0 := BO.cell 0 _ rfl; have i0 := BO.frozen 0; have e1 := BO.cell 1 _ rfl; have i1 := BO.frozen 1; have e2 := BO.cell 2 _ rfl; have i2 := BO.frozen 2; have e3 := BO.cell 3 _ rfl; have i3 := BO.frozen 3; have e4 := BO.cell 4 _ rfl; have i4 := BO.frozen 4; have e5 := BO.cell 5 _ rfl; have i5 := BO.frozen 5; have e6 := BO.cell 6 _ rfl; have i6 := BO.frozen 6; have e7 := BO.cell 7 _ rfl; have i7 := BO.frozen 7; have e8 := BO.cell 8 _ rfl; have i8 := BO.frozen 8; have e9 := BO.cell 9 _ rfl; have i9 := BO.frozen 9; have e10 := BO.cell 10 _ rfl; have i10 := BO.frozen 10; have e11 := BO.cell 11 _ rfl; have i11 := BO.frozen 11; have e12 := BO.cell 12 _ rfl; have i12 := BO.frozen 12
                              go_simp
                              refine hK.out _ _ ?_ (fun hHeld2 => ?_)
                              · exact hHeld
                              · clear hK K hHeld
                                have hHeld := hHeld2
                                clear hHeld2
                                try simp only [Act.put, List.setIfInBounds_toArray, List.set_cons_zero, List.set_cons_succ]
                                clear lts e0 i0 e1 i1 e2 i2 e3 i3 e4 i4 e5 i5 e6 i6 e7 i7 e8 i8 e9 i9 e10 i10 e11 i11 e12 i12
                                refine wpAnyH_ready (rs := [2]) (by kernel_rfl) (by simp) ?_
                                refine AllReadyH.cons rfl (fun K hK => ?_) ?_
                                · go_simp
                                  go_fit (con_add6 (G.below (KB3.out _ hHeld)) TO TO OQ.out OQ.out)
                                  rintro e w6 ⟨l0, l1, l2, l3, l4, l5, o0, o1, o2, o3, o4, o5, kl, rfl, T3, hb⟩
                                  refine hK.out _ _ ?_ (fun hHeld2 => ?_)
                                  · exact KL3.out _ _ hHeld hb
                                  · clear hK K hHeld
                                    have hHeld := hHeld2
                                    clear hHeld2
                                    try simp only [Act.put, List.setIfInBounds_toArray, List.set_cons_zero, List.set_cons_succ]
                                    replace BO := BO.later hb
                                    clear hb
                                    refine wpAnyH_ready (rs := [6]) (by kernel_rfl) (by simp) ?_
                                    refine AllReadyH.cons rfl (fun K hK => ?_) ?_
                                    · go_simp
                                      go_fit (con_pick6 C01d.out T1 T2 O1.out O2.out)
                                      rintro e w7 ⟨v0, v1, v2, v3, v4, v5, f0, f1, f2, f3, f4, f5, kv, rfl, T4, hb⟩
                                      refine hK.out _ _ ?_ (fun hHeld2 => ?_)
                                      · exact KL3.out _ _ hHeld hb
                                      · clear hK K hHeld
                                        have hHeld := hHeld2
                                        clear hHeld2
                                        try simp only [Act.put, List.setIfInBounds_toArray, List.set_cons_zero, List.set_cons_succ]
                                        replace BO := BO.later hb
                                        clear hb
                                        refine wpAnyH_ready (rs := [7]) (by kernel_rfl) (by simp) ?_
                                        refine AllReadyH.cons rfl (fun K hK => ?_) ?_
                                        · go_simp
                                          go_fit (con_add6 (G.below (KB3.out _ hHeld)) T3 T4 O4.out O3.out)
                                          rintro e w8 ⟨r0, r1, r2, r3, r4, r5, z0, z1, z2, z3, z4, z5, kr, rfl, T5, hb⟩
                                          refine hK.out _ _ ?_ (fun hHeld2 => ?_)
                                          · exact KL3.out _ _ hHeld hb
                                          · clear hK K hHeld
                                            have hHeld := hHeld2
                                            clear hHeld2
                                            try simp only [Act.put, List.setIfInBounds_toArray, List.set_cons_zero, List.set_cons_succ]
                                            replace BO := BO.later hb
                                            clear hb
                                            refine wpAnyH_ready (rs := [8]) (by kernel_rfl) (by simp) ?_
                                            refine AllReadyH.cons rfl (fun K hK => ?_) ?_
                                            · have lts := BO.lt
                                              have e0 := BO.cell 0 _ rfl; have i0 := BO.frozen 0; have e1 := BO.cell 1 _ rfl; have i1 := BO.frozen 1; have e2 := BO.cell 2 _ rfl; have i2 := BO.frozen 2; have e3 := BO.cell 3 _ rfl; have i3 := BO.frozen 3; have e4 := BO.cell 4 _ rfl; have i4 := BO.frozen 4; have e5 := BO.cell 5 _ rfl; have i5 := BO.frozen 5; have e6 := BO.cell 6 _ rfl; have i6 := BO.frozen 6; have e7 := BO.cell 7 _ rfl; have i7 := BO.frozen 7; have e8 := BO.cell 8 _ rfl; have i8 := BO.frozen 8; have e9 := BO.cell 9 _ rfl; have i9 := BO.frozen 9; have e10 := BO.cell 10 _ rfl; have i10 := BO.frozen 10; have e11 := BO.cell 11 _ rfl; have i11 := BO.frozen 11; have e12 := BO.cell 12 _ rfl; have i12 := BO.frozen 12
                                              go_simp
                                              refine hK.out _ _ ?_ (fun hHeld2 => ?_)
                                              · exact (KQ3.out _ _ _ _ (KQ3.out _ _ _ _ (KQ3.out _ _ _ _ (KQ3.out _ _ _ _ (KQ3.out _ _ _ _ (KQ3.out _ _ _ _ (KQ3.out _ _ _ _ (KQ3.out _ _ _ _ (KQ3.out _ _ _ _ (KQ3.out _ _ _ _ (KQ3.out _ _ _ _ (KQ3.out _ _ _ _ (KQ3.out _ _ _ _ hHeld (Or.inr mq) (by omega)) (Or.inr mq) (by omega)) (Or.inr mq) (by omega)) (Or.inr mq) (by omega)) (Or.inr mq) (by omega)) (Or.inr mq) (by omega)) (Or.inr mq) (by omega)) (Or.inr mq) (by omega)) (Or.inr mq) (by omega)) (Or.inr mq) (by omega)) (Or.inr mq) (by omega)) (Or.inr mq) (by omega)) (Or.inr mq) (by omega))
                                              · clear hK K hHeld
                                                have hHeld := hHeld2
                                                clear hHeld2
                                                try simp only [Act.put, List.setIfInBounds_toArray, List.set_cons_zero, List.set_cons_succ]
                                                clear lts e0 i0 e1 i1 e2 i2 e3 i3 e4 i4 e5 i5 e6 i6 e7 i7 e8 i8 e9 i9 e10 i10 e11 i11 e12 i12
                                                replace BO := BO.on_putP hHeld
                                                refine wpAnyH_done (by kernel_rfl) ?_ _
                                                refine NoPanic.normal ?_
                                                have Bu := KM3.out _ (w.heap.size) _ hHeld (List.Mem.head _)
                                                have Bv := KM3.out _ (w.heap.size + 1) _ hHeld (List.Mem.tail _ (List.Mem.head _))
                                                have Bq := KM3.out _ (w.heap.size + 1 + 1) _ hHeld (List.Mem.tail _ (List.Mem.tail _ (List.Mem.head _)))
                                                have Br := KM3.out _ (w.heap.size + 1 + 1 + 1) _ hHeld (List.Mem.tail _ (List.Mem.tail _ (List.Mem.tail _ (List.Mem.head _))))
                                                have Bg := KM3.out _ (bg) _ hHeld (List.Mem.tail _ (List.Mem.tail _ (List.Mem.tail _ (List.Mem.tail _ (List.Mem.head _)))))
                                                have Bh := KM3.out _ (bh) _ hHeld (List.Mem.tail _ (List.Mem.tail _ (List.Mem.tail _ (List.Mem.tail _ (List.Mem.tail _ (List.Mem.head _))))))
                                                have bel := KB3.out _ hHeld
                                                clear hHeld mq hN3 KL3 KA3 KD3 KS3 KQ3 KN3 KB3 KM3 KR3
                                                generalize World.setCell _ _ _ = w9 at *
                                                go_wp2_with fail
                                                go_roundw
                                                case rel => exact ⟨k + 1, by omega, rfl, ⟨r0, r1, r2, r3, r4, r5, z0, z1, z2, z3, z4, z5, kr, BO, by rw [EJ.out, ← two_round HP.out HDc.out HDd.out]; exact T5⟩, Bu, Bv, Bq, Br, Bg, Bh, bel⟩
                                                case measure => simp [intOf]; omega
                                            exact AllReadyH.nil
                                        exact AllReadyH.nil
                                    exact AllReadyH.nil
                                exact AllReadyH.nil
                            exact AllReadyH.nil
                        exact AllReadyH.nil
                  exact AllReadyH.nil
              exact AllReadyH.nil
          exact AllReadyH.nil
      exact AllReadyH.nil

set_option maxRecDepth 100000 in
set_option maxHeartbeats 4000000 in
theorem two_bad {a0 a1 a2 a3 a4 a5 b0 b1 b2 b3 b4 b5 x0 x1 x2 x3 x4 x5 y0 y1 y2 y3 y4 y5 : Int} {n : Bool} {w : World} (G : GlsC w) (fX : fits [x0, x1, x2, x3, x4, x5]) (fY : fits [y0, y1, y2, y3, y4, y5]) (h : ¬ IsOn n (v64 [x0, x1, x2, x3, x4, x5]) (v64 [y0, y1, y2, y3, y4, y5])) :
    Calls Tryd.prog 24 #[.agg #[.int .u64 a0, .int .u64 a1, .int .u64 a2, .int .u64 a3, .int .u64 a4, .int .u64 a5], .agg #[.int .u64 b0, .int .u64 b1, .int .u64 b2, .int .u64 b3, .int .u64 b4, .int .u64 b5], .agg #[.int .u64 x0, .int .u64 x1, .int .u64 x2, .int .u64 x3, .int .u64 x4, .int .u64 x5, .int .u64 y0, .int .u64 y1, .int .u64 y2, .int .u64 y3, .int .u64 y4, .int .u64 y5, .bool n]] w fun e w' => e = .returned (.tuple #[.agg #[.int .u64 0, .int .u64 0, .int .u64 0, .int .u64 0, .int .u64 0, .int .u64 0, .int .u64 0, .int .u64 0, .int .u64 0, .int .u64 0, .int .u64 0, .int .u64 0, .bool false], .iface 35 (.int .i64 4)]) ∧ Below w.heap.size w w' := by
  have HO : Hid _ := h
  clear h
  have B0 := (((Blk.new w [.int .u64 a0, .int .u64 a1, .int .u64 a2, .int .u64 a3, .int .u64 a4, .int .u64 a5] 24 (w.heap.size) rfl).alloc (.cells [.int .u64 b0, .int .u64 b1, .int .u64 b2, .int .u64 b3, .int .u64 b4, .int .u64 b5].toArray 24)).alloc (.cells [.int .u64 x0, .int .u64 x1, .int .u64 x2, .int .u64 x3, .int .u64 x4, .int .u64 x5, .int .u64 y0, .int .u64 y1, .int .u64 y2, .int .u64 y3, .int .u64 y4, .int .u64 y5, .bool n].toArray 37)).alloc (.cells [.int .u64 0, .int .u64 0, .int .u64 0, .int .u64 0, .int .u64 0, .int .u64 0, .int .u64 0, .int .u64 0, .int .u64 0, .int .u64 0, .int .u64 0, .int .u64 0, .bool false].toArray 37)
  have B1 := ((Blk.new (w.alloc (.cells [.int .u64 a0, .int .u64 a1, .int .u64 a2, .int .u64 a3, .int .u64 a4, .int .u64 a5].toArray 24)) [.int .u64 b0, .int .u64 b1, .int .u64 b2, .int .u64 b3, .int .u64 b4, .int .u64 b5] 24 (w.heap.size + 1) (by simp)).alloc (.cells [.int .u64 x0, .int .u64 x1, .int .u64 x2, .int .u64 x3, .int .u64 x4, .int .u64 x5, .int .u64 y0, .int .u64 y1, .int .u64 y2, .int .u64 y3, .int .u64 y4, .int .u64 y5, .bool n].toArray 37)).alloc (.cells [.int .u64 0, .int .u64 0, .int .u64 0, .int .u64 0, .int .u64 0, .int .u64 0, .int .u64 0, .int .u64 0, .int .u64 0, .int .u64 0, .int .u64 0, .int .u64 0, .bool false].toArray 37)
  have B2 := (Blk.new ((w.alloc (.cells [.int .u64 a0, .int .u64 a1, .int .u64 a2, .int .u64 a3, .int .u64 a4, .int .u64 a5].toArray 24)).alloc (.cells [.int .u64 b0, .int .u64 b1, .int .u64 b2, .int .u64 b3, .int .u64 b4, .int .u64 b5].toArray 24)) [.int .u64 x0, .int .u64 x1, .int .u64 x2, .int .u64 x3, .int .u64 x4, .int .u64 x5, .int .u64 y0, .int .u64 y1, .int .u64 y2, .int .u64 y3, .int .u64 y4, .int .u64 y5, .bool n] 37 (w.heap.size + 1 + 1) (by simp)).alloc (.cells [.int .u64 0, .int .u64 0, .int .u64 0, .int .u64 0, .int .u64 0, .int .u64 0, .int .u64 0, .int .u64 0, .int .u64 0, .int .u64 0, .int .u64 0, .int .u64 0, .bool false].toArray 37)
  have B3 := Blk.new (((w.alloc (.cells [.int .u64 a0, .int .u64 a1, .int .u64 a2, .int .u64 a3, .int .u64 a4, .int .u64 a5].toArray 24)).alloc (.cells [.int .u64 b0, .int .u64 b1, .int .u64 b2, .int .u64 b3, .int .u64 b4, .int .u64 b5].toArray 24)).alloc (.cells [.int .u64 x0, .int .u64 x1, .int .u64 x2, .int .u64 x3, .int .u64 x4, .int .u64 x5, .int .u64 y0, .int .u64 y1, .int .u64 y2, .int .u64 y3, .int .u64 y4, .int .u64 y5, .bool n].toArray 37)) [.int .u64 0, .int .u64 0, .int .u64 0, .int .u64 0, .int .u64 0, .int .u64 0, .int .u64 0, .int .u64 0, .int .u64 0, .int .u64 0, .int .u64 0, .int .u64 0, .bool false] 37 (w.heap.size + 1 + 1 + 1) (by simp)
  have bel : Below w.heap.size w ((((w.alloc (.cells [.int .u64 a0, .int .u64 a1, .int .u64 a2, .int .u64 a3, .int .u64 a4, .int .u64 a5].toArray 24)).alloc (.cells [.int .u64 b0, .int .u64 b1, .int .u64 b2, .int .u64 b3, .int .u64 b4, .int .u64 b5].toArray 24)).alloc (.cells [.int .u64 x0, .int .u64 x1, .int .u64 x2, .int .u64 x3, .int .u64 x4, .int .u64 x5, .int .u64 y0, .int .u64 y1, .int .u64 y2, .int .u64 y3, .int .u64 y4, .int .u64 y5, .bool n].toArray 37)).alloc (.cells [.int .u64 0, .int .u64 0, .int .u64 0, .int .u64 0, .int .u64 0, .int .u64 0, .int .u64 0, .int .u64 0, .int .u64 0, .int .u64 0, .int .u64 0, .int .u64 0, .bool false].toArray 37)) := (((((Below.refl _ _).alloc (Nat.le_refl _) _).alloc (by simp) _).alloc (by simp; omega) _).alloc (by simp; omega) _)
  go_enter Tryd.func24, Tryd.ntmps24
  go_upto_region 1 with fail
  try simp only [us, List.map_cons, List.map_nil] at bel
  generalize ((((w.alloc (Obj.cells #[.int .u64 a0, .int .u64 a1, .int .u64 a2, .int .u64 a3, .int .u64 a4, .int .u64 a5] 24)).alloc (Obj.cells #[.int .u64 b0, .int .u64 b1, .int .u64 b2, .int .u64 b3, .int .u64 b4, .int .u64 b5] 24)).alloc (Obj.cells #[.int .u64 x0, .int .u64 x1, .int .u64 x2, .int .u64 x3, .int .u64 x4, .int .u64 x5, .int .u64 y0, .int .u64 y1, .int .u64 y2, .int .u64 y3, .int .u64 y4, .int .u64 y5, .bool n] 37)).alloc (Obj.cells #[.int .u64 0, .int .u64 0, .int .u64 0, .int .u64 0, .int .u64 0, .int .u64 0, .int .u64 0, .int .u64 0, .int .u64 0, .int .u64 0, .int .u64 0, .int .u64 0, .bool false] 37)) = W at *
  have Bu := B0
  have Bv := B1
  have Bq := B2
  have Br := B3
  clear B0 B1 B2 B3
  have ltq := Bq.lt
  have cq0 := Bq.cell 0 _ rfl
  have cq1 := Bq.cell 1 _ rfl
  have cq2 := Bq.cell 2 _ rfl
  have cq3 := Bq.cell 3 _ rfl
  have cq4 := Bq.cell 4 _ rfl
  have cq5 := Bq.cell 5 _ rfl
  have cq6 := Bq.cell 6 _ rfl
  have cq7 := Bq.cell 7 _ rfl
  have cq8 := Bq.cell 8 _ rfl
  have cq9 := Bq.cell 9 _ rfl
  have cq10 := Bq.cell 10 _ rfl
  have cq11 := Bq.cell 11 _ rfl
  have cq12 := Bq.cell 12 _ rfl
  go_wp2_with fail
  refine (con_On (b := false) (G.below bel) fX fY ⟨fun h => absurd h (by simp), fun h => absurd h HO.out⟩).mono ?_
  rintro e w1 ⟨rfl, hb⟩
  clear ltq cq0 cq1 cq2 cq3 cq4 cq5 cq6 cq7 cq8 cq9 cq10 cq11 cq12
  replace Bu := Bu.later hb
  replace Bv := Bv.later hb
  replace Bq := Bq.later hb
  replace Br := Br.later hb
  replace bel := below_step bel hb
  clear hb
  have ltr := Br.lt
  have d0 := Br.cell 0 _ rfl; have g0 := Br.frozen 0; have d1 := Br.cell 1 _ rfl; have g1 := Br.frozen 1; have d2 := Br.cell 2 _ rfl; have g2 := Br.frozen 2; have d3 := Br.cell 3 _ rfl; have g3 := Br.frozen 3; have d4 := Br.cell 4 _ rfl; have g4 := Br.frozen 4; have d5 := Br.cell 5 _ rfl; have g5 := Br.frozen 5; have d6 := Br.cell 6 _ rfl; have g6 := Br.frozen 6; have d7 := Br.cell 7 _ rfl; have g7 := Br.frozen 7; have d8 := Br.cell 8 _ rfl; have g8 := Br.frozen 8; have d9 := Br.cell 9 _ rfl; have g9 := Br.frozen 9; have d10 := Br.cell 10 _ rfl; have g10 := Br.frozen 10; have d11 := Br.cell 11 _ rfl; have g11 := Br.frozen 11; have d12 := Br.cell 12 _ rfl; have g12 := Br.frozen 12
  go_wp2_with fail
  exact bodyPost_ret (v := .tuple #[.agg #[.int .u64 0, .int .u64 0, .int .u64 0, .int .u64 0, .int .u64 0, .int .u64 0, .int .u64 0, .int .u64 0, .int .u64 0, .int .u64 0, .int .u64 0, .int .u64 0, .bool false], .iface 35 (.int .i64 4)]) (by simp [results, Tryd.results24, go_sem, d0, d1, d2, d3, d4, d5, d6, d7, d8, d9, d10, d11, d12]) rfl ⟨rfl, below_put13 bel (by omega)⟩

theorem con_TwoBad {a0 a1 a2 a3 a4 a5 b0 b1 b2 b3 b4 b5 x0 x1 x2 x3 x4 x5 y0 y1 y2 y3 y4 y5 : Int} {n : Bool} {w : World} (G : GlsC w) (_ : fits [a0, a1, a2, a3, a4, a5]) (_ : fits [b0, b1, b2, b3, b4, b5]) (fX : fits [x0, x1, x2, x3, x4, x5]) (fY : fits [y0, y1, y2, y3, y4, y5]) (h : ¬ IsOn n (v64 [x0, x1, x2, x3, x4, x5]) (v64 [y0, y1, y2, y3, y4, y5])) :
    Calls Tryd.prog 24 #[.agg #[.int .u64 a0, .int .u64 a1, .int .u64 a2, .int .u64 a3, .int .u64 a4, .int .u64 a5], .agg #[.int .u64 b0, .int .u64 b1, .int .u64 b2, .int .u64 b3, .int .u64 b4, .int .u64 b5], .agg #[.int .u64 x0, .int .u64 x1, .int .u64 x2, .int .u64 x3, .int .u64 x4, .int .u64 x5, .int .u64 y0, .int .u64 y1, .int .u64 y2, .int .u64 y3, .int .u64 y4, .int .u64 y5, .bool n]] w fun e w' => e = .returned (.tuple #[.agg #[.int .u64 0, .int .u64 0, .int .u64 0, .int .u64 0, .int .u64 0, .int .u64 0, .int .u64 0, .int .u64 0, .int .u64 0, .int .u64 0, .int .u64 0, .int .u64 0, .bool false], .iface 35 (.int .i64 4)]) ∧ Below w.heap.size w w' := two_bad G fX fY h

end Go.Proofs.YtjpnbbhpgchbpaaDoor
